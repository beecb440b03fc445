/- What is told may be, is laid in no more bytes than it stood in. Plain lists. And what came in, what is owned, as lists somewhere. -/
import Derived.Test.YtdmidagcdhhlhaaDoorInsMath
namespace Go.Proofs.YtdmidagcdhhlhaaDoor.Ins
open Go.RowKit Ints Typ Leb
set_option maxRecDepth 100000
set_option maxHeartbeats 1000000
set_option linter.unusedVariables false

theorem InAt.run {W : World} {h : Nat} {op A B K : Int} {P : Option Addr} {n c : Nat} (H : InAt W h op A B K (.slice P n c)) : (Instr.loadAt 50 (.pointer (some ⟨h, 0, none⟩))).run Tryd.prog W = .ok (.agg #[.int .i64 op, .int .i64 A, .int .i64 B, .int .u64 K, .slice P n c]) W := by
  obtain ⟨_, q1, q2, q3, q4, q5, _, _, _, _, _⟩ := H
  go_simp
theorem came_slI {w : World} {a : Option Addr} {len cap : Nat} {zs : List Int} (h : Leb.Came .i64 w a len cap zs) : SlI w (.slice a len cap) (zs.take len) := by
  obtain ⟨h1, h2, h3, h4, h5⟩ := came_parts h
  refine ⟨a, cap, by rw [h1], by omega, h3, fun h0 => ?_⟩
  obtain ⟨g, off, e, hg, hc⟩ := h4 h0
  exact ⟨g, off, e, hg, fun j hj => hc j (by omega)⟩
theorem u64R_of {x : Int} (h : (Lit.int .u64 x).wf = true) : u64R x := by simpa [Lit.wf, IntKind.min, IntKind.max, IntKind.signed, IntKind.bits, u64R] using h
theorem own_cellsI {w : World} {B g cap : Nat} {v : Value} {n : Nat} {xs : List Value} {t : TypeId} (h : w.ownsRow B t 1 v n xs) (hv : v = .slice (some ⟨g, 0, none⟩) n cap) : ∀ j u, xs[j]? = some u → w.cell? ⟨g, 0 + j, none⟩ = some u := by
  intro j u hu
  have e := World.ownsRow.cells h (g := g) (by subst hv; rfl) j u hu
  cases j with
  | zero => simpa [Addr.add] using e
  | succ j => simpa [Addr.add] using e
theorem OwnI.slI {w : World} {B : Nat} {v : Value} {l : List Int} (h : Ins.OwnI w B v l) : SlI w v l := by
  have h' := h
  obtain ⟨_, ⟨hv, hl⟩ | ⟨g, cap, cur, hv, hB, hc, hle, hm, hsz, ht⟩⟩ := h'
  · have : l = [] := List.length_eq_zero_iff.1 hl
    subst this
    exact ⟨none, 0, hv, Nat.le_refl _, by omega, fun h => absurd rfl h⟩
  · refine ⟨_, cap, hv, hle, by unfold maxLen at hm; omega, fun h0 => ⟨g, 0, rfl, ?_, fun j hj => own_cellsI h hv j _ ?_⟩⟩
    · exact (Array.getElem?_eq_some_iff.1 hc).1
    · unfold Ins.vi; rw [List.getElem?_map, List.getElem?_eq_getElem hj]; simp [hj]
theorem rb_ok {l : List Int} {a : Nat} {e : Int} (h : (rb l a e).2.2 = 0) : e = 0 ∧ a < l.length ∧ rb l a e = (l.getD a 0, a + 1, 0) := by
  by_cases he : e = 0
  · subst he
    by_cases ha : a < l.length
    · exact ⟨rfl, ha, rb_in ha⟩
    · rw [rb_end (by omega)] at h; simp at h
  · rw [rb_err he] at h; exact absurd h he
theorem ru_ok {l : List Int} {a : Nat} {e : Int} (hb : ∀ x ∈ l, 0 ≤ x ∧ x < 256) (ha : a ≤ l.length) (h : (ru l a e).2.2 = 0) :
    e = 0 ∧ ∃ v p : Nat, ru l a e = ((v : Int), p, 0) ∧ v < 4294967296 ∧ a + (uB v).length ≤ p ∧ p ≤ l.length := by
  by_cases he : e = 0
  · subst he
    have hle := ru_le (e := 0) ha
    unfold ru at h hle ⊢
    rw [if_neg (by simp)] at h hle ⊢
    cases hr : rdl fitU 32 (l.drop a) 0 0 with
    | short => rw [hr] at h; simp at h
    | form => rw [hr] at h; simp at h
    | ok n m =>
      rw [hr] at hle
      obtain ⟨h1, h2⟩ := rdl32 (fun x hx => hb x (List.mem_of_mem_drop hx)) hr
      exact ⟨rfl, n, a + m / 7, rfl, h1, by rw [uB_len]; omega, hle⟩
  · rw [ru_e he] at h; exact absurd h he
theorem more_lt {acc lo : Nat} {c : Int} (h0 : 0 ≤ c) (hlo : lo ≤ 56) (hm : lo % 7 = 0) (ha : acc < 2 ^ lo) : more acc lo c < 2 ^ (lo + 7) := by
  have hu : ((c % 128).toNat : Int) = c % 128 := by omega
  generalize hU : (c % 128).toNat = u at *
  have hb : u < 128 := by omega
  have : lo = 0 ∨ lo = 7 ∨ lo = 14 ∨ lo = 21 ∨ lo = 28 ∨ lo = 35 ∨ lo = 42 ∨ lo = 49 ∨ lo = 56 := by omega
  rcases this with rfl | rfl | rfl | rfl | rfl | rfl | rfl | rfl | rfl <;> rw [more_small acc _ c u hu.symm (by omega)] <;> omega
theorem rdS_small {k : Nat} (hk : k ≤ 64) : ∀ (l : List Int) (lo acc v m : Nat), (∀ x ∈ l, 0 ≤ x ∧ x < 256) → lo % 7 = 0 → lo < k → acc < 2 ^ lo → rdl fitS k l lo acc = .ok v m → m ≤ 63 → v < 2 ^ m
  | [], _, _, _, _, _, _, _, _, h, _ => by cases h
  | c :: r, lo, acc, v, m, hx, hm, hlo, ha, h, h63 => by
    have hc := hx c (by simp)
    rw [rdl] at h
    split at h
    · cases h
    · rename_i hn
      split at h
      · injection h with h1 h2
        subst h1 h2
        exact more_lt hc.1 (by omega) hm ha
      · have h2 : lo + 7 < k := by
          by_cases hq : k ≤ lo + 7
          · exact absurd ⟨hq, .inl (by omega)⟩ hn
          · omega
        exact rdS_small hk r (lo + 7) _ v m (fun x hx' => hx x (by simp [hx'])) (by omega) h2 (more_lt hc.1 (by omega) hm ha) h h63
theorem rdS_32 : ∀ (l : List Int) (lo acc v m : Nat), (∀ x ∈ l, 0 ≤ x ∧ x < 256) → (lo = 0 ∨ lo = 7 ∨ lo = 14 ∨ lo = 21 ∨ lo = 28) → acc < 2 ^ lo → rdl fitS 32 l lo acc = .ok v m → m ≤ 35 ∧ (m = 35 → v < 2147483648 ∨ 32212254720 ≤ v)
  | [], _, _, _, _, _, _, _, h => by cases h
  | c :: r, lo, acc, v, m, hx, hlo, ha, h => by
    have hc := hx c (by simp)
    rw [rdl] at h
    split at h
    · cases h
    · rename_i hn
      split at h
      · rename_i hc2
        injection h with h1 h2
        subst h1 h2
        refine ⟨by omega, fun h35 => ?_⟩
        obtain rfl : lo = 28 := by omega
        have hf : fitS c (32 - 28) = true := by
          cases hq : fitS c (32 - 28) with
          | true => rfl
          | false => exact absurd ⟨by omega, .inr hq⟩ hn
        have hu : ((c % 128).toNat : Int) = c % 128 := by omega
        unfold fitS at hf
        simp only [Nat.reduceSub, Bool.or_eq_true, decide_eq_true_eq] at hf
        generalize hU : (c % 128).toNat = u at *
        rw [more_small acc _ c u hu.symm (by omega)]
        omega
      · have h2 : lo + 7 < 32 := by
          by_cases hq : 32 ≤ lo + 7
          · exact absurd ⟨hq, .inl (by omega)⟩ hn
          · omega
        exact rdS_32 r (lo + 7) _ v m (fun x hx' => hx x (by simp [hx'])) (by omega) (more_lt hc.1 (by omega) (by omega) ha) h
theorem ext_len {v m : Nat} (hm : m % 7 = 0) (h7 : 7 ≤ m) (h70 : m ≤ 70) (hv : m ≤ 63 → v < 2 ^ m) : lenS (ext v m) ≤ m / 7 ∧ -9223372036854775808 ≤ ext v m ∧ ext v m ≤ 9223372036854775807 := by
  have key : ∀ k, m = 7 * (k + 1) → -(64 * 128 ^ k) ≤ ext v m ∧ ext v m < 64 * 128 ^ k ∧ k ≤ 9 → lenS (ext v m) ≤ m / 7 := fun k e ⟨h1, h2, h3⟩ => by
    have := lenS_le k _ h1 h2
    omega
  have : m = 7 ∨ m = 14 ∨ m = 21 ∨ m = 28 ∨ m = 35 ∨ m = 42 ∨ m = 49 ∨ m = 56 ∨ m = 63 ∨ m = 70 := by omega
  rcases this with rfl | rfl | rfl | rfl | rfl | rfl | rfl | rfl | rfl | rfl
  · have hv := hv (by omega)
    have hr : -64 ≤ ext v 7 ∧ ext v 7 < 64 := by simp only [ext, IntKind.wrap_u64, wrap64, Nat.reduceLeDiff, Nat.reduceSub, ↓reduceIte]; omega
    exact ⟨key 0 rfl ⟨by omega, by omega, by omega⟩, by omega, by omega⟩
  · have hv := hv (by omega)
    have hr : -8192 ≤ ext v 14 ∧ ext v 14 < 8192 := by simp only [ext, IntKind.wrap_u64, wrap64, Nat.reduceLeDiff, Nat.reduceSub, ↓reduceIte]; omega
    exact ⟨key 1 rfl ⟨by omega, by omega, by omega⟩, by omega, by omega⟩
  · have hv := hv (by omega)
    have hr : -1048576 ≤ ext v 21 ∧ ext v 21 < 1048576 := by simp only [ext, IntKind.wrap_u64, wrap64, Nat.reduceLeDiff, Nat.reduceSub, ↓reduceIte]; omega
    exact ⟨key 2 rfl ⟨by omega, by omega, by omega⟩, by omega, by omega⟩
  · have hv := hv (by omega)
    have hr : -134217728 ≤ ext v 28 ∧ ext v 28 < 134217728 := by simp only [ext, IntKind.wrap_u64, wrap64, Nat.reduceLeDiff, Nat.reduceSub, ↓reduceIte]; omega
    exact ⟨key 3 rfl ⟨by omega, by omega, by omega⟩, by omega, by omega⟩
  · have hv := hv (by omega)
    have hr : -17179869184 ≤ ext v 35 ∧ ext v 35 < 17179869184 := by simp only [ext, IntKind.wrap_u64, wrap64, Nat.reduceLeDiff, Nat.reduceSub, ↓reduceIte]; omega
    exact ⟨key 4 rfl ⟨by omega, by omega, by omega⟩, by omega, by omega⟩
  · have hv := hv (by omega)
    have hr : -2199023255552 ≤ ext v 42 ∧ ext v 42 < 2199023255552 := by simp only [ext, IntKind.wrap_u64, wrap64, Nat.reduceLeDiff, Nat.reduceSub, ↓reduceIte]; omega
    exact ⟨key 5 rfl ⟨by omega, by omega, by omega⟩, by omega, by omega⟩
  · have hv := hv (by omega)
    have hr : -281474976710656 ≤ ext v 49 ∧ ext v 49 < 281474976710656 := by simp only [ext, IntKind.wrap_u64, wrap64, Nat.reduceLeDiff, Nat.reduceSub, ↓reduceIte]; omega
    exact ⟨key 6 rfl ⟨by omega, by omega, by omega⟩, by omega, by omega⟩
  · have hv := hv (by omega)
    have hr : -36028797018963968 ≤ ext v 56 ∧ ext v 56 < 36028797018963968 := by simp only [ext, IntKind.wrap_u64, wrap64, Nat.reduceLeDiff, Nat.reduceSub, ↓reduceIte]; omega
    exact ⟨key 7 rfl ⟨by omega, by omega, by omega⟩, by omega, by omega⟩
  · have hv := hv (by omega)
    have hr : -4611686018427387904 ≤ ext v 63 ∧ ext v 63 < 4611686018427387904 := by simp only [ext, IntKind.wrap_u64, wrap64, Nat.reduceLeDiff, Nat.reduceSub, ↓reduceIte]; omega
    exact ⟨key 8 rfl ⟨by omega, by omega, by omega⟩, by omega, by omega⟩
  · have hr : -9223372036854775808 ≤ ext v 70 ∧ ext v 70 ≤ 9223372036854775807 := by simp only [ext, wrap64, Nat.reduceLeDiff, ↓reduceIte]; omega
    exact ⟨key 9 rfl ⟨by omega, by omega, by omega⟩, by omega, by omega⟩
theorem ext_32 {v m : Nat} (hm : m % 7 = 0) (h7 : 7 ≤ m) (h35 : m ≤ 35) (hv : v < 2 ^ m) (hq : m = 35 → v < 2147483648 ∨ 32212254720 ≤ v) : -2147483648 ≤ ext v m ∧ ext v m < 2147483648 := by
  have : m = 7 ∨ m = 14 ∨ m = 21 ∨ m = 28 ∨ m = 35 := by omega
  rcases this with rfl | rfl | rfl | rfl | rfl
  · simp only [ext, IntKind.wrap_u64, wrap64, Nat.reduceLeDiff, Nat.reduceSub, ↓reduceIte]; omega
  · simp only [ext, IntKind.wrap_u64, wrap64, Nat.reduceLeDiff, Nat.reduceSub, ↓reduceIte]; omega
  · simp only [ext, IntKind.wrap_u64, wrap64, Nat.reduceLeDiff, Nat.reduceSub, ↓reduceIte]; omega
  · simp only [ext, IntKind.wrap_u64, wrap64, Nat.reduceLeDiff, Nat.reduceSub, ↓reduceIte]; omega
  · have := hq rfl
    simp only [ext, IntKind.wrap_u64, wrap64, Nat.reduceLeDiff, Nat.reduceSub, ↓reduceIte]; omega
theorem rs_ok {k : Nat} (hk : k = 32 ∨ k = 64) {l : List Int} {a : Nat} {e : Int} (hb : ∀ x ∈ l, 0 ≤ x ∧ x < 256) (ha : a ≤ l.length) (h : (rs k l a e).2.2 = 0) :
    e = 0 ∧ ∃ (s : Int) (p : Nat), rs k l a e = (s, p, 0) ∧ a + (sB s).length ≤ p ∧ p ≤ l.length ∧ -9223372036854775808 ≤ s ∧ s ≤ 9223372036854775807 ∧ (k = 32 → -2147483648 ≤ s ∧ s < 2147483648) := by
  by_cases he : e = 0
  · subst he
    have hle := rs_le (bits := k) (e := 0) ha
    unfold rs at h hle ⊢
    rw [if_neg (by simp)] at h hle ⊢
    cases hr : rdl fitS k (l.drop a) 0 0 with
    | short => rw [hr] at h; simp at h
    | form => rw [hr] at h; simp at h
    | ok n m =>
      rw [hr] at hle
      have hb' : ∀ x ∈ l.drop a, 0 ≤ x ∧ x < 256 := fun x hx => hb x (List.mem_of_mem_drop hx)
      obtain ⟨w1, w2, w3⟩ := rdl_width (by omega) _ _ _ _ _ (by omega) rfl hr
      have hs := rdS_small (by omega) _ _ _ _ _ hb' rfl (by omega) (by simp) hr
      obtain ⟨g1, g2, g3⟩ := ext_len w2 w3 w1 hs
      refine ⟨rfl, ext n m, a + m / 7, rfl, by rw [sB_len]; omega, hle, g2, g3, fun e32 => ?_⟩
      subst e32
      obtain ⟨q1, q2⟩ := rdS_32 _ _ _ _ _ hb' (.inl rfl) (by simp) hr
      exact ext_32 w2 w3 q1 (hs (by omega)) q2
  · rw [show rs k l a e = (0, a, e) from if_pos he] at h; exact absurd h he
theorem okN_mk {v : Nat} (h : v < 4294967296) : okN (v : Int) = true := by unfold okN; simp; omega
theorem lb_ok {l : List Int} (hb : ∀ x ∈ l, 0 ≤ x ∧ x < 256) : ∀ (n : Nat) (M : List Int) (a : Nat) (e : Int), a ≤ l.length → (lb l n M a e).2.2 = 0 →
    e = 0 ∧ ∃ (L : List Int) (p : Nat), lb l n M a e = (M ++ L, p, 0) ∧ L.length = n ∧ L.all okN = true ∧ a + (uLs L).length ≤ p ∧ p ≤ l.length
  | 0, M, a, e, ha, h => by
    have h0 : e = 0 := h
    subst h0
    exact ⟨rfl, [], a, by simp [lb], rfl, rfl, by simp [uLs], ha⟩
  | n + 1, M, a, e, ha, h => by
    by_cases he : e = 0
    · subst he
      have e1 : lb l (n + 1) M a 0 = lb l n (M ++ [(ru l a 0).1]) (ru l a 0).2.1 (ru l a 0).2.2 := if_pos rfl
      rw [e1] at h ⊢
      obtain ⟨h2, L, p, e2, h3, h4, h5, h6⟩ := lb_ok hb n _ _ _ (ru_le ha) h
      obtain ⟨_, v, q, e3, k1, k2, k3⟩ := ru_ok hb ha h2
      rw [e2]
      rw [e3] at h5 ⊢
      refine ⟨rfl, (v : Int) :: L, p, by simp, by simp [h3], by rw [List.all_cons, h4, okN_mk k1]; rfl, ?_, h6⟩
      rw [show uLs ((v : Int) :: L) = uB ((v : Int)).toNat ++ uLs L from rfl, List.length_append, Int.toNat_natCast]
      simp only at h5
      omega
    · rw [lb_err he] at h; exact absurd h he
theorem rf_ok {b : Bool} {e x : Int} (hx : x ≠ 0) (h : rf b e x = 0) : b = false ∧ e = 0 := by
  unfold rf at h
  cases b with
  | true =>
    simp only [cond_true] at h
    split at h
    · exact absurd h hx
    · rename_i h2; exact absurd h h2
  | false => exact ⟨rfl, h⟩
theorem sg_va32 {s : Int} (h1 : -2147483648 ≤ s) (h2 : s < 2147483648) : sgT 127 (vaT 127 s) = s ∧ 0 ≤ vaT 127 s ∧ vaT 127 s < 4294967296 := by
  unfold vaT sgT sg32
  rw [if_pos rfl, if_pos rfl]
  split <;> omega
theorem sg_va64 {s : Int} (h1 : -9223372036854775808 ≤ s) (h2 : s ≤ 9223372036854775807) : sgT 126 (IntKind.u64.wrap s) = s := by
  rw [IntKind.wrap_u64]
  unfold sgT sg64
  rw [if_neg (by decide)]
  split <;> omega
/-- What is told may be; how many bytes; which code. -/
theorem ri_told {l : List Int} (hb : ∀ x ∈ l, 0 ≤ x ∧ x < 256) {a : Nat} (ha : a ≤ l.length) (h : (ri l a 0).2.2 = 0) :
    saneI (ri l a 0).1 = true ∧ a + (ib (ri l a 0).1).length ≤ (ri l a 0).2.1 ∧ (ri l a 0).2.1 ≤ l.length ∧ a < l.length ∧ (ri l a 0).1.op = l.getD a 0 ∧ kd (ri l a 0).1.op ≠ 0 ∧ u64R (ri l a 0).1.K := by
  have hu0 : u64R 0 := by unfold u64R; omega
  have hr := kd_range (rb l a 0).1
  have hk : kd (rb l a 0).1 = 0 ∨ kd (rb l a 0).1 = 1 ∨ kd (rb l a 0).1 = 2 ∨ kd (rb l a 0).1 = 3 ∨ kd (rb l a 0).1 = 4 ∨ kd (rb l a 0).1 = 5 ∨ kd (rb l a 0).1 = 6 ∨ kd (rb l a 0).1 = 7 ∨ kd (rb l a 0).1 = 8 ∨ kd (rb l a 0).1 = 9 := by omega
  rcases hk with hk | hk | hk | hk | hk | hk | hk | hk | hk | hk
  · have e0 : (ri l a 0).2.2 = rf true (rb l a 0).2.2 3 := by simp [ri, hk]
    rw [e0] at h
    exact absurd (rf_ok (by decide) h).1 (by decide)
  · have e0 : ri l a 0 = (⟨(rb l a 0).1, 0, 0, 0, []⟩, (rb l a 0).2.1, (rb l a 0).2.2) := by simp [ri, hk]
    rw [e0] at h
    obtain ⟨_, h1, e1⟩ := rb_ok h
    rw [e1] at e0 hk
    simp only at e0 hk
    generalize l.getD a 0 = o0 at *
    rw [e0]
    refine ⟨by rw [saneI_eq]; simp only [hk]; rw [saneK_1]; simp, ?_, by simp only; omega, h1, rfl, by simp only [hk]; decide, hu0⟩
    rw [show ib ⟨o0, 0, 0, 0, []⟩ = [o0] from by simp [ib, hk]]
    simp
  · have e0 : ri l a 0 = (let q := rb l (rb l a 0).2.1 (rb l a 0).2.2; (⟨(rb l a 0).1, if q.1 = 64 then 0 else q.1, 0, 0, []⟩, q.2.1, rf (q.1 != 64 && (q.1 != 126 && q.1 != 127)) q.2.2 3)) := by simp [ri, hk]
    rw [e0] at h
    obtain ⟨hq, hq2⟩ := rf_ok (by decide) h
    obtain ⟨hz, h2, e2⟩ := rb_ok hq2
    obtain ⟨_, h1, e1⟩ := rb_ok hz
    rw [e1] at e0 hk hq e2 h2
    simp only at e2 h2 hq
    rw [e2] at e0 hq
    simp only at e0 hq
    generalize l.getD (a + 1) 0 = y at *
    have hy : y = 64 ∨ y = 126 ∨ y = 127 := by
      by_cases g1 : y = 64
      · exact .inl g1
      · by_cases g2 : y = 126
        · exact .inr (.inl g2)
        · by_cases g3 : y = 127
          · exact .inr (.inr g3)
          · exfalso; simp [g1, g2, g3] at hq
    try simp only at hk
    generalize l.getD a 0 = o0 at *
    rw [e0]
    refine ⟨by rw [saneI_eq]; simp only [hk]; rw [saneK_2]; rcases hy with rfl | rfl | rfl <;> simp, ?_, by simp only; omega, h1, rfl, by simp only [hk]; decide, hu0⟩
    simp only
    generalize (if y = 64 then (0 : Int) else y) = z
    rw [show ib ⟨o0, z, 0, 0, []⟩ = [o0] ++ [if z = 0 then 64 else z] from by simp [ib, hk]]
    simp
  · have e0 : ri l a 0 = (⟨(rb l a 0).1, (ru l (rb l a 0).2.1 (rb l a 0).2.2).1, 0, 0, []⟩, (ru l (rb l a 0).2.1 (rb l a 0).2.2).2.1, (ru l (rb l a 0).2.1 (rb l a 0).2.2).2.2) := by simp [ri, hk]
    rw [e0] at h
    obtain ⟨hz, v, p, e2, k1, k2, k3⟩ := ru_ok hb (rb_le ha) h
    obtain ⟨_, h1, e1⟩ := rb_ok hz
    rw [e2] at e0
    rw [e1] at e0 hk k2
    simp only at e0 k2
    try simp only at hk
    generalize l.getD a 0 = o0 at *
    rw [e0]
    refine ⟨by rw [saneI_eq]; simp only [hk]; rw [saneK_3]; simp [okN_mk k1], ?_, k3, h1, rfl, by simp only [hk]; decide, hu0⟩
    rw [show ib ⟨o0, (v : Int), 0, 0, []⟩ = [o0] ++ uB v from by simp [ib, hk]]
    simp only [List.length_append, List.length_singleton]
    omega
  · have e0 : ri l a 0 = (let q := ru l (rb l a 0).2.1 (rb l a 0).2.2; let r := lb l q.1.toNat [] q.2.1 (rf (decide (64 < q.1)) q.2.2 4); let s := ru l r.2.1 r.2.2; (⟨(rb l a 0).1, s.1, 0, 0, r.1⟩, s.2.1, s.2.2)) := by simp [ri, hk]
    rw [e0] at h
    simp only at h
    have hle1 := ru_le (e := (rb l a 0).2.2) (rb_le (e := 0) ha)
    obtain ⟨hz3, v, p, e3, k1, k2, k3⟩ := ru_ok hb (lb_le _ _ _ _ hle1) h
    obtain ⟨hz2, L, p2, e2, j1, j2, j3, j4⟩ := lb_ok hb _ _ _ _ hle1 hz3
    obtain ⟨hq, hq2⟩ := rf_ok (by decide) hz2
    obtain ⟨hz1, u, p1, e1, i1, i2, i3⟩ := ru_ok hb (rb_le ha) hq2
    obtain ⟨_, h1, e00⟩ := rb_ok hz1
    simp only [e00] at *
    simp only [e1] at *
    simp only [e2] at *
    simp only [e3] at *
    have hu64 : u ≤ 64 := by simp at hq; omega
    rw [Int.toNat_natCast] at j1
    try simp only at hk
    generalize l.getD a 0 = o0 at *
    rw [e0]
    refine ⟨by rw [saneI_eq]; simp only [hk]; rw [saneK_4]; simp [okN_mk k1, j1]; exact ⟨by simpa using j2, by omega⟩, ?_, k3, h1, rfl, by simp only [hk]; decide, hu0⟩
    rw [show ib ⟨o0, (v : Int), 0, 0, [] ++ L⟩ = [o0] ++ uB L.length ++ uLs L ++ uB v from by simp [ib, hk]]
    simp only [List.length_append, List.length_singleton]
    rw [j1]
    omega
  · have e0 : ri l a 0 = (let q := ru l (rb l a 0).2.1 (rb l a 0).2.2; let r := rb l q.2.1 q.2.2; (⟨(rb l a 0).1, q.1, 0, 0, []⟩, r.2.1, rf (r.1 != 0) r.2.2 3)) := by simp [ri, hk]
    rw [e0] at h
    simp only at h
    obtain ⟨_, hq2⟩ := rf_ok (by decide) h
    obtain ⟨hz2, h2, e2⟩ := rb_ok hq2
    obtain ⟨hz, v, p, e1, k1, k2, k3⟩ := ru_ok hb (rb_le ha) hz2
    obtain ⟨_, h1, e00⟩ := rb_ok hz
    simp only [e00] at *
    simp only [e1] at *
    simp only [e2] at *
    try simp only at hk
    generalize l.getD a 0 = o0 at *
    rw [e0]
    refine ⟨by rw [saneI_eq]; simp only [hk]; rw [saneK_5]; simp [okN_mk k1], ?_, by simp only; omega, h1, rfl, by simp only [hk]; decide, hu0⟩
    rw [show ib ⟨o0, (v : Int), 0, 0, []⟩ = [o0] ++ uB v ++ [0] from by simp [ib, hk]]
    simp only [List.length_append, List.length_singleton]
    omega
  · have e0 : ri l a 0 = (let q := ru l (rb l a 0).2.1 (rb l a 0).2.2; let r := ru l q.2.1 q.2.2; (⟨(rb l a 0).1, q.1, r.1, 0, []⟩, r.2.1, r.2.2)) := by simp [ri, hk]
    rw [e0] at h
    simp only at h
    obtain ⟨hz2, u, p2, e2, j1, j2, j3⟩ := ru_ok hb (ru_le (rb_le ha)) h
    obtain ⟨hz, v, p, e1, k1, k2, k3⟩ := ru_ok hb (rb_le ha) hz2
    obtain ⟨_, h1, e00⟩ := rb_ok hz
    simp only [e00] at *
    simp only [e1] at *
    simp only [e2] at *
    try simp only at hk
    generalize l.getD a 0 = o0 at *
    rw [e0]
    refine ⟨by rw [saneI_eq]; simp only [hk]; rw [saneK_6]; simp [okN_mk k1, okN_mk j1], ?_, j3, h1, rfl, by simp only [hk]; decide, hu0⟩
    rw [show ib ⟨o0, (v : Int), (u : Int), 0, []⟩ = [o0] ++ uB v ++ uB u from by simp [ib, hk]]
    simp only [List.length_append, List.length_singleton]
    omega
  · have e0 : ri l a 0 = (let r := rb l (rb l a 0).2.1 (rb l a 0).2.2; (⟨(rb l a 0).1, 0, 0, 0, []⟩, r.2.1, rf (r.1 != 0) r.2.2 3)) := by simp [ri, hk]
    rw [e0] at h
    simp only at h
    obtain ⟨_, hq2⟩ := rf_ok (by decide) h
    obtain ⟨hz, h2, e2⟩ := rb_ok hq2
    obtain ⟨_, h1, e00⟩ := rb_ok hz
    simp only [e00] at *
    simp only [e2] at *
    try simp only at hk
    generalize l.getD a 0 = o0 at *
    rw [e0]
    refine ⟨by rw [saneI_eq]; simp only [hk]; rw [saneK_7]; simp, ?_, by simp only; omega, h1, rfl, by simp only [hk]; decide, hu0⟩
    rw [show ib ⟨o0, 0, 0, 0, []⟩ = [o0] ++ [0] from by simp [ib, hk]]
    simp
  · have e0 : ri l a 0 = (let q := rs 32 l (rb l a 0).2.1 (rb l a 0).2.2; (⟨(rb l a 0).1, 0, 0, vaT 127 q.1, []⟩, q.2.1, q.2.2)) := by simp [ri, hk]
    rw [e0] at h
    simp only at h
    obtain ⟨hz, s, p, e1, k1, k2, k3, k4, k5⟩ := rs_ok (.inl rfl) hb (rb_le ha) h
    obtain ⟨_, h1, e00⟩ := rb_ok hz
    simp only [e00] at *
    simp only [e1] at *
    obtain ⟨g1, g2⟩ := k5 trivial
    obtain ⟨v1, v2, v3⟩ := sg_va32 g1 g2
    try simp only at hk
    generalize l.getD a 0 = o0 at *
    rw [e0]
    refine ⟨by rw [saneI_eq]; simp only [hk]; rw [saneK_8]; simp [fitT, v3], ?_, k2, h1, rfl, by simp only [hk]; decide, by unfold u64R; simp only; omega⟩
    rw [show ib ⟨o0, 0, 0, vaT 127 s, []⟩ = [o0] ++ sB (sgT 127 (vaT 127 s)) from by simp [ib, hk], v1]
    simp only [List.length_append, List.length_singleton]
    omega
  · have e0 : ri l a 0 = (let q := rs 64 l (rb l a 0).2.1 (rb l a 0).2.2; (⟨(rb l a 0).1, 0, 0, IntKind.u64.wrap q.1, []⟩, q.2.1, q.2.2)) := by simp [ri, hk]
    rw [e0] at h
    simp only at h
    obtain ⟨hz, s, p, e1, k1, k2, k3, k4, _⟩ := rs_ok (.inr rfl) hb (rb_le ha) h
    obtain ⟨_, h1, e00⟩ := rb_ok hz
    simp only [e00] at *
    simp only [e1] at *
    have v1 := sg_va64 k3 k4
    try simp only at hk
    generalize l.getD a 0 = o0 at *
    rw [e0]
    refine ⟨by rw [saneI_eq]; simp only [hk]; rw [saneK_9]; simp [fitT], ?_, k2, h1, rfl, by simp only [hk]; decide, by unfold u64R; simp only; rw [IntKind.wrap_u64]; omega⟩
    rw [show ib ⟨o0, 0, 0, IntKind.u64.wrap s, []⟩ = [o0] ++ sB (sgT 126 (IntKind.u64.wrap s)) from by simp [ib, hk], v1]
    simp only [List.length_append, List.length_singleton]
    omega
theorem rdo_told {l : List Int} (hb : ∀ x ∈ l, 0 ≤ x ∧ x < 256) (hl : l.length ≤ 1000000) (h : (rdo l 0).2.2 = 0) :
    saneI (rdo l 0).1 = true ∧ ((ib (rdo l 0).1).length : Int) ≤ (rdo l 0).2.1 ∧ (rdo l 0).2.1 ≤ (l.length : Int) ∧ 0 < l.length ∧ (rdo l 0).1.op = l.getD 0 0 ∧ kd (rdo l 0).1.op ≠ 0 ∧ u64R (rdo l 0).1.K := by
  unfold rdo at h ⊢
  rw [if_neg (by omega), show (0 : Int).toNat = 0 from rfl] at h ⊢
  by_cases hz : (ri l 0 0).2.2 = 0
  · rw [if_pos hz]
    obtain ⟨h1, h2, h3, h4, h5, h6, h7⟩ := ri_told hb (Nat.zero_le _) hz
    exact ⟨h1, by simp only; omega, by simp only; omega, h4, h5, h6, h7⟩
  · rw [if_neg hz] at h; exact absurd h hz
theorem rdo_none {l : List Int} {a : Int} (h : (rdo l a).2.2 ≠ 0) : rdo l a = (⟨0, 0, 0, 0, []⟩, 0, (rdo l a).2.2) := by
  unfold rdo at h ⊢
  split
  · rfl
  · rename_i h1
    rw [if_neg h1] at h
    split
    · rename_i h2; rw [if_pos h2] at h; exact absurd rfl h
    · rfl
end Go.Proofs.YtdmidagcdhhlhaaDoor.Ins
