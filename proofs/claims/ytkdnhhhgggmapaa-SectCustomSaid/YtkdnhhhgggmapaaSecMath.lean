/- What sections are laid as, and what is split of it: plain. -/
import Derived.Test.YtkdnhhhgggmapaaSecSplitC
namespace Go.Proofs.Ytkdnhhhgggmapaa.Sec
open Go.RowKit Utf
set_option maxRecDepth 100000
set_option linter.unusedVariables false
/-- May a section stand behind ones whose greatest ID is 'last'? -/
noncomputable def may1 (last : Int) (p : Sct) : Bool := decide (0 ≤ p.1) && (decide (p.1 ≤ 11) && (bif p.1 == 0 then (nm p.2 0).2.2 == 0 else decide (last < p.1)))
noncomputable def mayb : Int → List Sct → Bool
  | _, [] => true
  | last, p :: l => may1 last p && mayb (max last p.1) l
def secB (p : Sct) : List Int := p.1 :: (Leb.uB p.2.length ++ p.2)
def secsB (l : List Sct) : List Int := l.flatMap secB
/-- What Join tells. -/
noncomputable def join7 (l : List Sct) : List Int × Int := if mayb 0 l = false then ([], 1) else if 65536 < 8 + (secsB l).length then ([], 4) else (hd8 ++ secsB l, 0)
theorem secsB_cons (p : Sct) (l : List Sct) : secsB (p :: l) = p.1 :: (Leb.uB p.2.length ++ (p.2 ++ secsB l)) := by simp [secsB, secB]
theorem secsB_len (p : Sct) (l : List Sct) : (secsB (p :: l)).length = 1 + Leb.lenU p.2.length + p.2.length + (secsB l).length := by
  rw [secsB_cons, List.length_cons, List.length_append, List.length_append, Leb.uB_len]
  omega
theorem may1_zero {last : Int} {p : Sct} (h : may1 last p = true) (h0 : p.1 = 0) : (nm p.2 0).2.2 = 0 := by
  unfold may1 at h
  simp only [Bool.and_eq_true] at h
  have := h.2.2
  rw [h0] at this
  simpa using this
theorem may1_in {last : Int} {p : Sct} (h : may1 last p = true) : 0 ≤ p.1 ∧ p.1 ≤ 11 := by
  unfold may1 at h
  simp only [Bool.and_eq_true, decide_eq_true_eq] at h
  exact ⟨h.1, h.2.1⟩
theorem may1_lt {last : Int} {p : Sct} (h : may1 last p = true) (h0 : p.1 ≠ 0) : last < p.1 := by
  unfold may1 at h
  simp only [Bool.and_eq_true] at h
  have := h.2.2
  rw [show (p.1 == 0) = false from by simpa using h0] at this
  simpa using this
theorem may1_mk0 {last : Int} {D : List Int} (h : (nm D 0).2.2 = 0) : may1 last (0, D) = true := by
  unfold may1
  simp [h]
theorem may1_mk {last x : Int} {D : List Int} (h1 : 0 < x) (h2 : x ≤ 11) (h3 : last < x) : may1 last (x, D) = true := by
  unfold may1
  rw [show (x == 0) = false from by simp; omega]
  simp
  omega
theorem may_cons {last : Int} {p : Sct} {l : List Sct} (h : mayb last (p :: l) = true) : may1 last p = true ∧ mayb (max last p.1) l = true := by
  rw [mayb, Bool.and_eq_true] at h
  exact h
/-- What is ahead of the round: the ID, the size, the bytes. -/
theorem at_secs {b : List Int} {k : Nat} {x : Int} {U T : List Int} (h : b.drop k = x :: (U ++ T)) : k < b.length ∧ b.getD k 0 = x ∧ b.drop (k + 1) = U ++ T ∧ b.drop (k + 1 + U.length) = T ∧ b.length = k + 1 + U.length + T.length := by
  have hk : k < b.length := by
    by_cases hk : k < b.length
    · exact hk
    · rw [List.drop_eq_nil_of_le (by omega)] at h; cases h
  have h1 : b.drop (k + 1) = U ++ T := by
    rw [← List.drop_drop, h]
    rfl
  have h2 : b.drop (k + 1 + U.length) = T := by rw [← List.drop_drop, h1, List.drop_left]
  refine ⟨hk, ?_, h1, h2, ?_⟩
  · rw [List.drop_eq_getElem_cons hk] at h
    rw [List.getD_eq_getElem?_getD, List.getElem?_eq_getElem hk]
    exact (List.cons.inj h).1
  · have e1 := congrArg List.length h
    rw [List.length_drop, List.length_cons, List.length_append] at e1
    omega
theorem spl_secs : ∀ (l : List Sct) (b : List Int) (f k : Nat) (last : Int) (out : List Sct), b.length ≤ 65536 → b.drop k = secsB l → mayb last l = true → 0 ≤ last → l.length < f → spl b f k last out = (out ++ l, 0)
  | [], b, f + 1, k, last, out, hb, hd, _, _, _ => by
    have : b.length ≤ k := by
      have e := congrArg List.length hd
      rw [List.length_drop] at e
      simp [secsB] at e
      omega
    rw [spl, if_pos this, List.append_nil]
  | p :: l, b, f + 1, k, last, out, hb, hd, hm, h0, hf => by
    obtain ⟨m1, m2⟩ := may_cons hm
    obtain ⟨i1, i2⟩ := may1_in m1
    rw [secsB_cons] at hd
    obtain ⟨hk, hx, d1, d2, hl⟩ := at_secs hd
    rw [spl_more hk hx, if_neg (by omega), d1]
    have hs : p.2.length < 4294967296 := by rw [List.length_append] at hl; omega
    rw [Typ.back32 hs]
    show (if b.length - (k + 1 + 7 * Leb.lenU p.2.length / 7) < p.2.length then _ else _) = _
    rw [show 7 * Leb.lenU p.2.length / 7 = (Leb.uB p.2.length).length from by rw [Leb.uB_len]; omega, d2, if_neg (by rw [hl, List.length_append]; omega), List.take_left]
    rw [List.length_cons] at hf
    have hd' : b.drop (k + 1 + (Leb.uB p.2.length).length + p.2.length) = secsB l := by rw [← List.drop_drop, d2, List.drop_left]
    by_cases e0 : p.1 = 0
    · rw [if_pos e0, if_neg (by rw [may1_zero m1 e0]; decide), spl_secs l b f _ last _ hb hd' (by rw [e0, show max last 0 = last from by omega] at m2; exact m2) h0 (by omega), List.append_assoc]
      rw [show (0, p.2) = p from by rw [← e0]]
      rfl
    · have := may1_lt m1 e0
      rw [if_neg e0, if_neg (by omega), spl_secs l b f _ p.1 _ hb hd' (by rw [show max last p.1 = p.1 from by omega] at m2; exact m2) (by omega) (by omega), List.append_assoc]
      rfl
/-- A byte less. -/
theorem spl_cut : ∀ (l : List Sct) (b : List Int) (f k : Nat) (last : Int) (out : List Sct), l ≠ [] → b.length ≤ 65536 → b.drop k = (secsB l).dropLast → mayb last l = true → 0 ≤ last → l.length < f → spl b f k last out = ([], 2)
  | [], _, _, _, _, _, h, _, _, _, _, _ => absurd rfl h
  | [p], b, f + 1, k, last, out, _, hb, hd, hm, h0, hf => by
    obtain ⟨m1, m2⟩ := may_cons hm
    obtain ⟨i1, i2⟩ := may1_in m1
    have e0 : secsB [p] = p.1 :: (Leb.uB p.2.length ++ p.2) := by simp [secsB, secB]
    rw [e0] at hd
    rcases List.eq_nil_or_concat p.2 with hn | ⟨D, x, hD⟩
    · rw [hn, show (p.1 :: (Leb.uB ([] : List Int).length ++ [])).dropLast = p.1 :: ([] ++ []) from by rw [show ([] : List Int).length = 0 from rfl, Leb.uB_small (by omega)]; rfl] at hd
      obtain ⟨hk, hx, d1, _, _⟩ := at_secs hd
      rw [spl_more hk hx, if_neg (by omega), d1]
      rfl
    · rw [hD, List.concat_eq_append] at hd
      obtain ⟨n, hn⟩ : ∃ n, (D ++ [x]).length = n := ⟨_, rfl⟩
      have hDn : D.length + 1 = n := by rw [← hn]; simp
      rw [hn, show (p.1 :: (Leb.uB n ++ (D ++ [x]))).dropLast = p.1 :: (Leb.uB n ++ D) from by rw [← List.append_assoc, ← List.cons_append, List.dropLast_concat]] at hd
      obtain ⟨hk, hx, d1, d2, hl⟩ := at_secs hd
      rw [spl_more hk hx, if_neg (by omega), d1, Typ.back32 (v := n) (by omega)]
      show (if b.length - (k + 1 + 7 * Leb.lenU n / 7) < n then _ else _) = _
      rw [if_pos (by rw [hl, Leb.uB_len]; omega)]
  | p :: q :: l, b, f + 1, k, last, out, _, hb, hd, hm, h0, hf => by
    obtain ⟨m1, m2⟩ := may_cons hm
    obtain ⟨i1, i2⟩ := may1_in m1
    have hne : secsB (q :: l) ≠ [] := by rw [secsB_cons]; simp
    have e0 : (secsB (p :: q :: l)).dropLast = p.1 :: (Leb.uB p.2.length ++ (p.2 ++ (secsB (q :: l)).dropLast)) := by
      rw [secsB_cons p, ← List.append_assoc, ← List.cons_append, List.dropLast_append_of_ne_nil hne]
      simp
    rw [e0] at hd
    obtain ⟨hk, hx, d1, d2, hl⟩ := at_secs hd
    rw [spl_more hk hx, if_neg (by omega), d1]
    have hs : p.2.length < 4294967296 := by rw [List.length_append] at hl; omega
    rw [Typ.back32 hs]
    show (if b.length - (k + 1 + 7 * Leb.lenU p.2.length / 7) < p.2.length then _ else _) = _
    rw [show 7 * Leb.lenU p.2.length / 7 = (Leb.uB p.2.length).length from by rw [Leb.uB_len]; omega, d2, if_neg (by rw [hl, List.length_append]; omega), List.take_left]
    rw [List.length_cons] at hf
    have hd' : b.drop (k + 1 + (Leb.uB p.2.length).length + p.2.length) = (secsB (q :: l)).dropLast := by rw [← List.drop_drop, d2, List.drop_left]
    by_cases e0 : p.1 = 0
    · rw [if_pos e0, if_neg (by rw [may1_zero m1 e0]; decide)]
      exact spl_cut (q :: l) b f _ last _ (by simp) hb hd' (by rw [e0, show max last 0 = last from by omega] at m2; exact m2) h0 (by omega)
    · have := may1_lt m1 e0
      rw [if_neg e0, if_neg (by omega)]
      exact spl_cut (q :: l) b f _ p.1 _ (by simp) hb hd' (by rw [show max last p.1 = p.1 from by omega] at m2; exact m2) (by omega) (by omega)
/-- What is told may be, and is laid in no more bytes than it stood in. -/
theorem spl_told : ∀ (f : Nat) (b : List Int) (k : Nat) (last : Int) (out L : List Sct), (∀ x ∈ b, 0 ≤ x ∧ x < 256) → 0 ≤ last → k ≤ b.length → spl b f k last out = (L, 0) → ∃ l, L = out ++ l ∧ mayb last l = true ∧ (secsB l).length + k ≤ b.length
  | 0, b, k, last, out, L, hb, h0, hk, h => by rw [spl] at h; cases h
  | f + 1, b, k, last, out, L, hb, h0, hk, h => by
    by_cases hkb : b.length ≤ k
    · rw [spl, if_pos hkb] at h
      refine ⟨[], ?_, rfl, by simp [secsB]; omega⟩
      rw [List.append_nil]
      exact (Prod.mk.inj h).1.symm
    · obtain ⟨x, hx⟩ : ∃ x, b.getD k 0 = x := ⟨_, rfl⟩
      have hx0 : 0 ≤ x := by
        rw [← hx, List.getD_eq_getElem?_getD, List.getElem?_eq_getElem (by omega)]
        exact (hb _ (List.getElem_mem (by omega))).1
      rw [spl_more (by omega) hx] at h
      by_cases h11 : 11 < x
      · rw [if_pos h11] at h; cases h
      · rw [if_neg h11] at h
        cases hr : Leb.rdl Leb.fitU 32 (b.drop (k + 1)) 0 0 with
        | short => rw [hr] at h; cases h
        | form => rw [hr] at h; cases h
        | ok v m =>
          rw [hr] at h
          replace h : (if b.length - (k + 1 + m / 7) < v then (([], 2) : List Sct × Int)
            else if x = 0 then
              (if (nm ((b.drop (k + 1 + m / 7)).take v) 0).2.2 ≠ 0 then ([], (nm ((b.drop (k + 1 + m / 7)).take v) 0).2.2)
               else spl b f (k + 1 + m / 7 + v) last (out ++ [(0, (b.drop (k + 1 + m / 7)).take v)]))
            else if x ≤ last then ([], 3)
            else spl b f (k + 1 + m / 7 + v) x (out ++ [(x, (b.drop (k + 1 + m / 7)).take v)])) = (L, 0) := h
          obtain ⟨hv, hm⟩ := Typ.rdl32 (fun y hy => hb y (List.mem_of_mem_drop hy)) hr
          have hle := rdl_le (by omega) hr
          by_cases hsh : b.length - (k + 1 + m / 7) < v
          · rw [if_pos hsh] at h; cases h
          · rw [if_neg hsh] at h
            obtain ⟨D, hD⟩ : ∃ D, (b.drop (k + 1 + m / 7)).take v = D := ⟨_, rfl⟩
            have hDl : D.length = v := by rw [← hD, List.length_take, List.length_drop]; omega
            rw [hD] at h
            by_cases hz : x = 0
            · rw [if_pos hz] at h
              by_cases hn : (nm D 0).2.2 ≠ 0
              · rw [if_pos hn] at h
                exact absurd (Prod.mk.inj h).2 hn
              · rw [if_neg hn] at h
                obtain ⟨l, e1, e2, e3⟩ := spl_told f b _ last _ L hb h0 (by omega) h
                refine ⟨(0, D) :: l, by rw [e1, List.append_assoc]; rfl, ?_, ?_⟩
                · rw [mayb, may1_mk0 (by omega), Bool.true_and, show max last (0, D).1 = last from by show max last 0 = last; omega]
                  exact e2
                · rw [secsB_len]; simp only; rw [hDl]; omega
            · rw [if_neg hz] at h
              by_cases hla : x ≤ last
              · rw [if_pos hla] at h; cases h
              · rw [if_neg hla] at h
                obtain ⟨l, e1, e2, e3⟩ := spl_told f b _ x _ L hb (by omega) (by omega) h
                refine ⟨(x, D) :: l, by rw [e1, List.append_assoc]; rfl, ?_, ?_⟩
                · rw [mayb, may1_mk (by omega) (by omega) (by omega), Bool.true_and, show max last (x, D).1 = x from by show max last x = x; omega]
                  exact e2
                · rw [secsB_len]; simp only; rw [hDl]; omega
theorem take8 (x : List Int) : (hd8 ++ x).take 8 = hd8 := rfl
theorem drop8 (x : List Int) : (hd8 ++ x).drop 8 = x := rfl
theorem secs_long : ∀ (l : List Sct), 2 * l.length ≤ (secsB l).length
  | [] => Nat.le_refl _
  | p :: l => by
    have := secs_long l
    have := Leb.lenU_pos p.2.length
    rw [secsB_len, List.length_cons]
    omega
theorem split_join {l : List Sct} (hm : mayb 0 l = true) (hl : 8 + (secsB l).length ≤ 65536) : split7 (hd8 ++ secsB l) = (l, 0) := by
  have h8 : hd8.length = 8 := rfl
  have hlong := secs_long l
  unfold split7
  rw [if_neg (by rw [List.length_append]; omega), if_neg (by rw [List.length_append]; omega), if_neg (by rw [take8]; simp),
    spl_secs l _ _ 8 0 [] (by rw [List.length_append]; omega) (drop8 _) hm (by omega) (by omega)]
  rfl
theorem split_cut {l : List Sct} (hm : mayb 0 l = true) (hl : 8 + (secsB l).length ≤ 65536) : split7 (hd8 ++ secsB l).dropLast = ([], 2) := by
  have h8 : hd8.length = 8 := rfl
  have hlong := secs_long l
  unfold split7
  rcases l with _ | ⟨p, l⟩
  · rfl
  · have hne : secsB (p :: l) ≠ [] := by rw [secsB_cons]; simp
    have hlen : 0 < (secsB (p :: l)).length := List.length_pos_iff.2 hne
    rw [List.dropLast_append_of_ne_nil hne]
    have hll : (hd8 ++ (secsB (p :: l)).dropLast).length = 8 + (secsB (p :: l)).length - 1 := by rw [List.length_append, List.length_dropLast]; omega
    rw [if_neg (by omega), if_neg (by omega), if_neg (by rw [take8]; simp),
      spl_cut (p :: l) _ _ 8 0 [] (by simp) (by omega) (drop8 _) hm (by omega) (by omega)]
theorem split_told {b : List Int} {L : List Sct} (hb : ∀ x ∈ b, 0 ≤ x ∧ x < 256) (h : split7 b = (L, 0)) : mayb 0 L = true ∧ 8 + (secsB L).length ≤ b.length ∧ b.length ≤ 65536 := by
  unfold split7 at h
  by_cases h1 : 65536 < b.length
  · rw [if_pos h1] at h; cases h
  · rw [if_neg h1] at h
    by_cases h2 : b.length < 8
    · rw [if_pos h2] at h; cases h
    · rw [if_neg h2] at h
      by_cases h3 : b.take 8 ≠ hd8
      · rw [if_pos h3] at h; cases h
      · rw [if_neg h3] at h
        obtain ⟨l, e1, e2, e3⟩ := spl_told _ b 8 0 [] L hb (by omega) (by omega) h
        rw [List.nil_append] at e1
        subst e1
        exact ⟨e2, by omega, by omega⟩
theorem spl_err : ∀ (f : Nat) (b : List Int) (k : Nat) (last : Int) (out : List Sct) (R : List Sct × Int), spl b f k last out = R → R.2 ≠ 0 → R.1 = []
  | 0, _, _, _, _, _, h, _ => by rw [← h]; rfl
  | f + 1, b, k, last, out, R, h, h0 => by
    by_cases hk : b.length ≤ k
    · rw [spl, if_pos hk] at h
      rw [← h] at h0
      exact absurd rfl h0
    · rw [spl_more (by omega) rfl] at h
      split at h
      · rw [← h]
      · split at h
        · rw [← h]
        · rw [← h]
        · split at h
          · rw [← h]
          · split at h
            · split at h
              · rw [← h]
              · exact spl_err f _ _ _ _ _ h h0
            · split at h
              · rw [← h]
              · exact spl_err f _ _ _ _ _ h h0
theorem split_err {b : List Int} {R : List Sct × Int} (h : split7 b = R) (h0 : R.2 ≠ 0) : R.1 = [] := by
  unfold split7 at h
  split at h
  · rw [← h]
  · split at h
    · rw [← h]
    · split at h
      · rw [← h]
      · exact spl_err _ _ _ _ _ _ h h0
/-- A section that begins with a name may be laid in anywhere. -/
theorem mayb_ins {c : Sct} (h0 : c.1 = 0) (hn : (nm c.2 0).2.2 = 0) : ∀ (a d : List Sct) (last : Int), 0 ≤ last → mayb last (a ++ c :: d) = mayb last (a ++ d)
  | [], d, last, hl => by
    obtain ⟨x, D⟩ := c
    simp only at h0 hn
    subst h0
    rw [List.nil_append, List.nil_append, mayb, may1_mk0 hn, Bool.true_and, show max last ((0, D) : Sct).1 = last from by show max last 0 = last; omega]
  | p :: a, d, last, hl => by
    rw [List.cons_append, List.cons_append, mayb, mayb, mayb_ins h0 hn a d (max last p.1) (by omega)]
theorem secs_app (a b : List Sct) : secsB (a ++ b) = secsB a ++ secsB b := by simp [secsB]
theorem secs_ins (a d : List Sct) (c : Sct) : (secsB (a ++ c :: d)).length = (secsB (a ++ d)).length + (1 + Leb.lenU c.2.length + c.2.length) := by
  rw [secs_app, secs_app, List.length_append, List.length_append, secsB_len]
  omega
/-- Sizes. -/
def sz1 (n : Nat) : Nat := 2 + n + (if 128 ≤ n then 1 else 0) + (if 16384 ≤ n then 1 else 0)
def szs (l : List Sct) : Nat := (l.map fun p => sz1 p.2.length).sum
theorem lenU_three {n : Nat} (h : n ≤ 70000) : Leb.lenU n = 1 + (if 128 ≤ n then 1 else 0) + (if 16384 ≤ n then 1 else 0) := by
  by_cases h1 : n < 128
  · rw [Leb.lenU_small h1, if_neg (by omega), if_neg (by omega)]
  · rw [Leb.lenU_great (by omega), if_pos (by omega)]
    by_cases h2 : n < 16384
    · rw [Leb.lenU_small (by omega), if_neg (by omega)]
    · rw [Leb.lenU_great (by omega), Leb.lenU_small (by omega), if_pos (by omega)]
theorem szs_eq : ∀ (l : List Sct), (∀ p ∈ l, p.2.length ≤ 70000) → szs l = (secsB l).length
  | [], _ => rfl
  | p :: l, h => by
    have e := szs_eq l fun q hq => h q (List.mem_cons_of_mem _ hq)
    rw [secsB_len, lenU_three (h p (List.mem_cons_self ..))]
    unfold szs at e ⊢
    rw [List.map_cons, List.sum_cons, e]
    unfold sz1
    omega
theorem szs_take {l : List Sct} {i : Nat} {p : Sct} (h : l[i]? = some p) : szs (l.take (i + 1)) = szs (l.take i) + sz1 p.2.length := by
  obtain ⟨h1, h2⟩ := List.getElem?_eq_some_iff.1 h
  unfold szs
  rw [List.take_succ_eq_append_getElem h1, h2, List.map_append, List.sum_append]
  simp
end Go.Proofs.Ytkdnhhhgggmapaa.Sec
