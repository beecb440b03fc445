/- What is laid is read; a byte less is too short; what is read is laid in no more bytes. Plain lists. -/
import Derived.Test.YtnminpbnlcgblaaTypPutR
import Derived.Test.YtnminpbnlcgblaaTypLim
namespace Go.Proofs.Ytnminpbnlcgblaa.Typ
open Go.RowKit Leb
set_option maxRecDepth 100000
set_option maxHeartbeats 1000000

theorem uB16 {n : Nat} (h : n ≤ 16) : uB n = [(n : Int)] := uB_small (by omega)
theorem fnB_eq {p r : List Int} (hp : p.length ≤ 16) (hr : r.length ≤ 1) : fnB p r = 96 :: (p.length : Int) :: (p ++ (r.length : Int) :: r) := by
  unfold fnB
  rw [uB16 hp, uB16 (by omega)]
  simp
theorem fnB_len {p r : List Int} (hp : p.length ≤ 16) (hr : r.length ≤ 1) : (fnB p r).length = 3 + p.length + r.length := by
  rw [fnB_eq hp hr]
  simp
  omega
theorem fnB_byte {p r : List Int} (hp : p.length ≤ 16) (hr : r.length ≤ 1) (h1 : ∀ x ∈ p, 0 ≤ x ∧ x < 256) (h2 : ∀ x ∈ r, 0 ≤ x ∧ x < 256) : ∀ x ∈ fnB p r, 0 ≤ x ∧ x < 256 := by
  rw [fnB_eq hp hr]
  intro x hx
  rcases List.mem_cons.1 hx with rfl | hx
  · omega
  · rcases List.mem_cons.1 hx with rfl | hx
    · omega
    · rcases List.mem_append.1 hx with hx | hx
      · exact h1 x hx
      · rcases List.mem_cons.1 hx with rfl | hx
        · omega
        · exact h2 x hx
theorem rdl_small {n : Nat} (h : n ≤ 16) (t : List Int) : rdl fitU 32 ((n : Int) :: t) 0 0 = .ok n 7 := by
  have := back32 (v := n) (by omega) t
  rwa [uB16 h, lenU_small (by omega)] at this
/-- So many values' types, as they were laid. -/
theorem vs_back {l x t : List Int} {k : Nat} {M : Int} (h : l.drop k = (x.length : Int) :: (x ++ t)) (hx : x.length ≤ 16) (hM : (x.length : Int) ≤ M) (hv : allV x = true) : vs l k M = (x, ((k + 1 + x.length : Nat) : Int), 0) := by
  unfold vs
  rw [h, rdl_small hx]
  show vsN l (k + 7 / 7) x.length M = _
  have hd : l.drop (k + 1) = x ++ t := by rw [← List.drop_drop, h]; rfl
  unfold vsN
  rw [if_neg (by omega), show k + 7 / 7 = k + 1 from rfl, hd, if_pos (vbad_mk _ _ (by simp) (by rw [List.take_left]; exact allV_true hv)), List.take_left]
theorem vs_short {l : List Int} {k : Nat} {M : Int} (h : l.drop k = []) : vs l k M = ([], 0, 2) := by unfold vs; rw [h]; rfl
theorem vs_short1 {l : List Int} {k : Nat} {M : Int} (h : l.drop k = [1]) (hM : 1 ≤ M) : vs l k M = ([], 0, 2) := by
  unfold vs
  rw [h, show ([1] : List Int) = ((1 : Nat) : Int) :: [] from rfl, rdl_small (by omega)]
  show vsN l (k + 7 / 7) 1 M = _
  unfold vsN
  have hd : l.drop (k + 7 / 7) = [] := by rw [show k + 7 / 7 = k + 1 from rfl, ← List.drop_drop, h]; rfl
  rw [if_neg (by omega), hd]
  rfl
theorem bt_front (b t : List Int) (c : Int) : bt (b ++ c :: t) (b.length : Int) = (c, 0) := by
  rw [bt_in (k := b.length) (by simp)]
  simp
theorem fn_head (b t : List Int) : fn (b ++ 96 :: t) (b.length : Int) = fn1 (b ++ 96 :: t) (vs (b ++ 96 :: t) (b.length + 1) 16) := by
  unfold fn
  rw [bt_front, if_neg (by simp), if_neg (by simp), Int.toNat_natCast]
theorem drop_front (b t : List Int) (c : Int) : (b ++ c :: t).drop (b.length + 1) = t := by
  rw [← List.drop_drop, List.drop_left]; rfl
theorem fn_back {b p r : List Int} (h : sane p r = true) : fn (b ++ fnB p r) (b.length : Int) = (p, r, ((b ++ fnB p r).length : Int), 0) := by
  obtain ⟨h1, h2, h3, h4⟩ := sane_parts h
  have hl := fnB_len h1 h2
  rw [List.length_append, hl, fnB_eq h1 h2, fn_head]
  generalize hL : b ++ 96 :: (p.length : Int) :: (p ++ (r.length : Int) :: r) = L
  have hd : L.drop (b.length + 1) = (p.length : Int) :: (p ++ (r.length : Int) :: r) := by rw [← hL]; exact drop_front _ _ _
  rw [vs_back hd h1 (by omega) h3]
  have hd2 : L.drop (b.length + 1 + 1 + p.length) = (r.length : Int) :: (r ++ []) := by
    rw [Nat.add_assoc (b.length + 1), ← List.drop_drop, hd, List.append_nil, Nat.add_comm 1, List.drop_succ_cons, List.drop_left]
  unfold fn1
  rw [if_neg (by simp)]
  show fn2 p (vs L (Int.toNat ((b.length + 1 + 1 + p.length : Nat) : Int)) 1) = _
  rw [Int.toNat_natCast, vs_back hd2 (by omega) (by omega) h4]
  unfold fn2
  rw [if_neg (by simp)]
  show (p, r, ((b.length + 1 + 1 + p.length + 1 + r.length : Nat) : Int), (0 : Int)) = (p, r, ((b.length + (3 + p.length + r.length) : Nat) : Int), 0)
  rw [show b.length + 1 + 1 + p.length + 1 + r.length = b.length + (3 + p.length + r.length) from by omega]
theorem take_less (a : List Int) (x : Int) : (a ++ [x]).take ((a ++ [x]).length - 1) = a := by simp
theorem fn_cut {b p r : List Int} (h : sane p r = true) : fn ((b ++ fnB p r).take ((b ++ fnB p r).length - 1)) (b.length : Int) = ([], [], 0, 2) := by
  obtain ⟨h1, h2, h3, h4⟩ := sane_parts h
  rw [fnB_eq h1 h2]
  match r, h2 with
  | [], _ =>
    rw [show b ++ 96 :: (p.length : Int) :: (p ++ (([] : List Int).length : Int) :: []) = (b ++ 96 :: (p.length : Int) :: p) ++ [0] from by simp, take_less, fn_head]
    generalize hL : b ++ 96 :: (p.length : Int) :: p = L
    have hd : L.drop (b.length + 1) = (p.length : Int) :: (p ++ []) := by rw [← hL, List.append_nil]; exact drop_front _ _ _
    rw [vs_back hd h1 (by omega) h3]
    have hd2 : L.drop (b.length + 1 + 1 + p.length) = [] := by
      rw [Nat.add_assoc (b.length + 1), ← List.drop_drop, hd, List.append_nil, Nat.add_comm 1, List.drop_succ_cons, List.drop_length]
    unfold fn1
    rw [if_neg (by simp)]
    show fn2 p (vs L (Int.toNat ((b.length + 1 + 1 + p.length : Nat) : Int)) 1) = _
    rw [Int.toNat_natCast, vs_short hd2]
    rfl
  | [y], _ =>
    rw [show b ++ 96 :: (p.length : Int) :: (p ++ (([y] : List Int).length : Int) :: [y]) = (b ++ 96 :: (p.length : Int) :: (p ++ [1])) ++ [y] from by simp, take_less, fn_head]
    generalize hL : b ++ 96 :: (p.length : Int) :: (p ++ [1]) = L
    have hd : L.drop (b.length + 1) = (p.length : Int) :: (p ++ [1]) := by rw [← hL]; exact drop_front _ _ _
    rw [vs_back hd h1 (by omega) h3]
    have hd2 : L.drop (b.length + 1 + 1 + p.length) = [1] := by
      rw [Nat.add_assoc (b.length + 1), ← List.drop_drop, hd, Nat.add_comm 1, List.drop_succ_cons, List.drop_left]
    unfold fn1
    rw [if_neg (by simp)]
    show fn2 p (vs L (Int.toNat ((b.length + 1 + 1 + p.length : Nat) : Int)) 1) = _
    rw [Int.toNat_natCast, vs_short1 hd2 (by omega)]
    rfl
/-- What is told of a function may be, and is laid in no more bytes. -/
theorem fn_told {l : List Int} (h : (fn l 0).2.2.2 = 0) : sane (fn l 0).1 (fn l 0).2.1 = true ∧ ((fnB (fn l 0).1 (fn l 0).2.1).length : Int) ≤ (fn l 0).2.2.1 ∧ (fn l 0).2.2.1 ≤ (l.length : Int) := by
  rcases bt_ways l 0 with ⟨_, hb⟩ | ⟨k, hk0, hk, hb⟩
  · unfold fn at h
    rw [if_pos (by omega)] at h
    have h : (bt l 0).2 = 0 := h
    omega
  · obtain rfl : k = 0 := by omega
    have hb : bt l 0 = (l.getD 0 0, 0) := hb
    by_cases h96 : l.getD 0 0 = 96
    · have e : fn l 0 = fn1 l (vs l 1 16) := by
        unfold fn
        rw [hb, if_neg (by simp), if_neg (fun h => h h96)]
        rfl
      rw [e] at h ⊢
      by_cases he : (vs l 1 16).2.2 = 0
      · obtain ⟨q, n, e1, _, e2, e3, hq, e4, e5⟩ := vs_ok (by omega) he
        have ef : fn1 l (vs l 1 16) = fn2 (vs l 1 16).1 (vs l q 1) := by
          unfold fn1
          rw [if_neg (by simp [he]), e1, Int.toNat_natCast]
        rw [ef] at h ⊢
        by_cases he2 : (vs l q 1).2.2 = 0
        · obtain ⟨q2, n2, f1, _, f2, f3, hq2, f4, f5⟩ := vs_ok hq he2
          have eg : fn2 (vs l 1 16).1 (vs l q 1) = ((vs l 1 16).1, (vs l q 1).1, (q2 : Int), 0) := by
            unfold fn2
            rw [if_neg (by simp [he2]), f1]
          rw [eg]
          show sane (vs l 1 16).1 (vs l q 1).1 = true ∧ ((fnB (vs l 1 16).1 (vs l q 1).1).length : Int) ≤ (q2 : Int) ∧ (q2 : Int) ≤ (l.length : Int)
          have hs := sane_mk (p := (vs l 1 16).1) (r := (vs l q 1).1) (by omega) (by omega) (allV_mk e5) (allV_mk f5)
          refine ⟨hs, ?_, by omega⟩
          rw [fnB_len (by omega) (by omega)]
          omega
        · unfold fn2 at h
          rw [if_pos (by simpa using he2)] at h
          exact absurd h he2
      · unfold fn1 at h
        rw [if_pos (by simpa using he)] at h
        exact absurd h he
    · unfold fn at h
      rw [hb, if_neg (by simp), if_pos (by simpa using h96)] at h
      cases h
theorem okL_nat {a b : Int} {h : Bool} (ho : okL a b h = true) : a = (a.toNat : Int) ∧ b = (b.toNat : Int) ∧ a.toNat < 4294967296 ∧ b.toNat < 4294967296 ∧ (h = false → b = 0) := by
  obtain ⟨h1, h2, h3, h4, h5⟩ := okL_iff.1 ho
  exact ⟨by omega, by omega, by omega, by omega, h5⟩
theorem lm_head (b t : List Int) (c : Int) (hc : c = 0 ∨ c = 1) : lm (b ++ c :: t) (b.length : Int) = lm1 (b ++ c :: t) c (b.length + 1) (rdl fitU 32 t 0 0) := by
  unfold lm
  rw [bt_front, if_neg (by simp), if_neg (by show ¬ 1 < c; omega), Int.toNat_natCast, drop_front]
theorem back32' {v : Nat} (h : v < 4294967296) : rdl fitU 32 (uB v) 0 0 = .ok v (7 * lenU v) := by
  have := back32 h []
  rw [List.append_nil] at this
  exact this
theorem lm1_one (l : List Int) (k n j : Nat) : lm1 l 1 k (.ok n j) = lm2 n (k + j / 7) (rdl fitU 32 (l.drop (k + j / 7)) 0 0) := rfl
theorem lm1_zero (l : List Int) (k n j : Nat) : lm1 l 0 k (.ok n j) = ((n : Int), 0, false, ((k + j / 7 : Nat) : Int), 0) := rfl
theorem div7 (n : Nat) : 7 * n / 7 = n := by omega
theorem lm_back {b : List Int} {m x : Int} {h : Bool} (ho : okL m x h = true) : lm (b ++ limB m x h) (b.length : Int) = (m, x, h, ((b ++ limB m x h).length : Int), 0) := by
  obtain ⟨e1, e2, h1, h2, h0⟩ := okL_nat ho
  unfold limB
  cases h with
  | false =>
    have hx := h0 rfl
    show lm (b ++ ([0] ++ uB m.toNat)) _ = (m, x, false, ((b ++ ([0] ++ uB m.toNat)).length : Int), 0)
    rw [show ([0] ++ uB m.toNat : List Int) = 0 :: uB m.toNat from rfl, lm_head b _ 0 (.inl rfl), back32' h1]
    rw [lm1_zero, div7, ← e1, hx, List.length_append, List.length_cons, uB_len]
    rw [show b.length + 1 + lenU m.toNat = b.length + (lenU m.toNat + 1) from by omega]
  | true =>
    show lm (b ++ ([1] ++ uB m.toNat ++ uB x.toNat)) _ = (m, x, true, ((b ++ ([1] ++ uB m.toNat ++ uB x.toNat)).length : Int), 0)
    rw [show ([1] ++ uB m.toNat ++ uB x.toNat : List Int) = 1 :: (uB m.toNat ++ uB x.toNat) from rfl, lm_head b _ 1 (.inr rfl), back32 h1]
    rw [lm1_one, div7]
    have hd : (b ++ 1 :: (uB m.toNat ++ uB x.toNat)).drop (b.length + 1 + lenU m.toNat) = uB x.toNat := by
      rw [← List.drop_drop, drop_front, ← uB_len, List.drop_left]
    rw [hd, back32' h2]
    show ((m.toNat : Int), (x.toNat : Int), true, ((b.length + 1 + lenU m.toNat + 7 * lenU x.toNat / 7 : Nat) : Int), (0 : Int)) = _
    rw [div7, ← e1, ← e2, List.length_append, List.length_cons, List.length_append, uB_len, uB_len]
    rw [show b.length + 1 + lenU m.toNat + lenU x.toNat = b.length + (lenU m.toNat + lenU x.toNat + 1) from by omega]
theorem cut_app {a c : List Int} (h : 1 ≤ c.length) : (a ++ c).take ((a ++ c).length - 1) = a ++ c.take (c.length - 1) := by
  rw [List.take_append, List.take_of_length_le (by rw [List.length_append]; omega), List.length_append, show a.length + c.length - 1 - a.length = c.length - 1 from by omega]
theorem lm_cut {b : List Int} {m x : Int} {h : Bool} (ho : okL m x h = true) : lm ((b ++ limB m x h).take ((b ++ limB m x h).length - 1)) (b.length : Int) = (0, 0, false, 0, 2) := by
  obtain ⟨e1, e2, h1, h2, h0⟩ := okL_nat ho
  have p1 := lenU_pos m.toNat
  have p2 := lenU_pos x.toNat
  unfold limB
  cases h with
  | false =>
    show lm ((b ++ 0 :: uB m.toNat).take ((b ++ 0 :: uB m.toNat).length - 1)) _ = _
    rw [show b ++ 0 :: uB m.toNat = (b ++ [0]) ++ uB m.toNat from by simp, cut_app (by rw [uB_len]; omega), uB_len]
    rw [show (b ++ [0]) ++ (uB m.toNat).take (lenU m.toNat - 1) = b ++ 0 :: (uB m.toNat).take (lenU m.toNat - 1) from by simp, lm_head b _ 0 (.inl rfl), cut32 h1 (by omega)]
    rfl
  | true =>
    show lm ((b ++ 1 :: (uB m.toNat ++ uB x.toNat)).take ((b ++ 1 :: (uB m.toNat ++ uB x.toNat)).length - 1)) _ = _
    rw [show b ++ 1 :: (uB m.toNat ++ uB x.toNat) = (b ++ 1 :: uB m.toNat) ++ uB x.toNat from by simp, cut_app (by rw [uB_len]; omega), uB_len]
    rw [show (b ++ 1 :: uB m.toNat) ++ (uB x.toNat).take (lenU x.toNat - 1) = b ++ 1 :: (uB m.toNat ++ (uB x.toNat).take (lenU x.toNat - 1)) from by simp, lm_head b _ 1 (.inr rfl), back32 h1]
    rw [lm1_one, div7]
    have hd : (b ++ 1 :: (uB m.toNat ++ (uB x.toNat).take (lenU x.toNat - 1))).drop (b.length + 1 + lenU m.toNat) = (uB x.toNat).take (lenU x.toNat - 1) := by
      rw [← List.drop_drop, drop_front, ← uB_len m.toNat, List.drop_left]
    rw [hd, cut32 h2 (by omega)]
    rfl
/-- What is told of limits may be, and is laid in no more bytes. -/
theorem lm_told {l : List Int} (hby : ∀ x ∈ l, 0 ≤ x ∧ x < 256) (h : (lm l 0).2.2.2.2 = 0) : okL (lm l 0).1 (lm l 0).2.1 (lm l 0).2.2.1 = true ∧ ((limB (lm l 0).1 (lm l 0).2.1 (lm l 0).2.2.1).length : Int) ≤ (lm l 0).2.2.2.1 ∧ (lm l 0).2.2.2.1 ≤ (l.length : Int) := by
  rcases bt_ways l 0 with ⟨_, hb⟩ | ⟨k, hk0, hk, hb⟩
  · unfold lm at h
    rw [if_pos (by omega)] at h
    have h : (bt l 0).2 = 0 := h
    omega
  · obtain rfl : k = 0 := by omega
    have hb : bt l 0 = (l.getD 0 0, 0) := hb
    by_cases h1 : 1 < l.getD 0 0
    · unfold lm at h
      rw [hb, if_neg (by simp), if_pos h1] at h
      cases h
    · have e : lm l 0 = lm1 l (l.getD 0 0) 1 (rdl fitU 32 (l.drop 1) 0 0) := by
        unfold lm
        rw [hb, if_neg (by simp), if_neg h1]
        rfl
      rw [e] at h ⊢
      cases hr : rdl fitU 32 (l.drop 1) 0 0 with
      | short => rw [hr] at h; cases h
      | form => rw [hr] at h; cases h
      | ok n j =>
        rw [hr] at h
        obtain ⟨g1, g2⟩ := rdl32 (fun x hx => hby x (List.mem_of_mem_drop hx)) hr
        have hm := rdl_len _ _ _ _ _ hr
        rw [List.length_drop] at hm
        by_cases h0 : l.getD 0 0 = 0
        · have ee : lm1 l (l.getD 0 0) 1 (.ok n j) = ((n : Int), 0, false, ((1 + j / 7 : Nat) : Int), 0) := if_pos h0
          rw [ee]
          show okL (n : Int) 0 false = true ∧ ((limB (n : Int) 0 false).length : Int) ≤ ((1 + j / 7 : Nat) : Int) ∧ ((1 + j / 7 : Nat) : Int) ≤ (l.length : Int)
          refine ⟨okL_iff.2 ⟨by omega, by omega, by omega, by omega, fun _ => rfl⟩, ?_, by omega⟩
          show ((([0] ++ uB (n : Int).toNat : List Int).length : Nat) : Int) ≤ _
          rw [Int.toNat_natCast, List.length_append, uB_len]
          simp
          omega
        · have ee : lm1 l (l.getD 0 0) 1 (.ok n j) = lm2 n (1 + j / 7) (rdl fitU 32 (l.drop (1 + j / 7)) 0 0) := if_neg h0
          rw [ee] at h ⊢
          cases hr2 : rdl fitU 32 (l.drop (1 + j / 7)) 0 0 with
          | short => rw [hr2] at h; cases h
          | form => rw [hr2] at h; cases h
          | ok y i =>
            obtain ⟨k1, k2⟩ := rdl32 (fun x hx => hby x (List.mem_of_mem_drop hx)) hr2
            have hm2 := rdl_len _ _ _ _ _ hr2
            rw [List.length_drop] at hm2
            show okL (n : Int) (y : Int) true = true ∧ ((limB (n : Int) (y : Int) true).length : Int) ≤ ((1 + j / 7 + i / 7 : Nat) : Int) ∧ ((1 + j / 7 + i / 7 : Nat) : Int) ≤ (l.length : Int)
            refine ⟨okL_iff.2 ⟨by omega, by omega, by omega, by omega, fun e => by cases e⟩, ?_, by omega⟩
            show ((([1] ++ uB (n : Int).toNat ++ uB (y : Int).toNat : List Int).length : Nat) : Int) ≤ _
            rw [Int.toNat_natCast, Int.toNat_natCast, List.length_append, List.length_append, uB_len, uB_len]
            simp
            omega
/-- Types' bytes are one just if the types are. -/
theorem fnB_inj {p r q s : List Int} (h : sane p r = true) (k : sane q s = true) : (fnB p r = fnB q s) ↔ (p = q ∧ r = s) := by
  obtain ⟨h1, h2, _, _⟩ := sane_parts h
  obtain ⟨k1, k2, _, _⟩ := sane_parts k
  constructor
  · intro e
    rw [fnB_eq h1 h2, fnB_eq k1 k2] at e
    injection e with _ e
    injection e with e1 e
    obtain ⟨e2, e3⟩ := List.append_inj e (by omega)
    subst e2
    injection e3 with _ e4
    exact ⟨rfl, e4⟩
  · rintro ⟨rfl, rfl⟩
    rfl
end Go.Proofs.Ytnminpbnlcgblaa.Typ
