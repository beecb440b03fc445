/- UtfCut walked: a text that is cut is a text just where a number ends. -/
import Derived.Test.YtfilcddkcbdbnaaUtfBackWalk
namespace Go.Proofs.Ytfilcddkcbdbnaa.Utf
open Go.RowKit
set_option maxRecDepth 100000
set_option maxHeartbeats 1000000

/-- How many bytes the first numbers have. -/
def lens (l : List Int) (i : Nat) : Nat := ((l.take i).flatMap enc).length
theorem lens_zero (l : List Int) : lens l 0 = 0 := by simp [lens]
theorem lens_more {l : List Int} {i : Nat} (h : i < l.length) : lens l (i + 1) = lens l i + (enc (l.getD i 0)).length := by
  unfold lens
  rw [take_more h, List.flatMap_append, List.length_append]
  simp
theorem lens_all {l : List Int} {i : Nat} (h : l.length ≤ i) : lens l i = (l.flatMap enc).length := by unfold lens; rw [List.take_of_length_le h]
/-- Did a number end at k, among the first? -/
def edgeB (l : List Int) (k : Nat) : Nat → Bool
  | 0 => false
  | j + 1 => edgeB l k j || decide (lens l j = k)
theorem edgeB_iff (l : List Int) (k : Nat) : ∀ j, edgeB l k j = true ↔ ∃ i, i < j ∧ lens l i = k
  | 0 => by simp [edgeB]
  | j + 1 => by
    rw [edgeB, Bool.or_eq_true, edgeB_iff l k j, decide_eq_true_eq]
    constructor
    · rintro (⟨i, h, e⟩ | e)
      · exact ⟨i, by omega, e⟩
      · exact ⟨j, by omega, e⟩
    · rintro ⟨i, h, e⟩
      by_cases hi : i = j
      · subst hi; exact .inr e
      · exact .inl ⟨i, by omega, e⟩
theorem edge_iff (l : List Int) (k : Nat) : edgeB l k (l.length + 1) = true ↔ edge l k := by
  rw [edgeB_iff]
  constructor
  · rintro ⟨i, h, e⟩; exact ⟨i, by omega, e.symm⟩
  · rintro ⟨i, h, e⟩; exact ⟨i, by omega, e.symm⟩
/-- No text begins in the middle of a number. -/
theorem mid_none {x : Int} {s y : List Int} (h0 : 128 ≤ x) (h1 : x < 192) : ¬ Txt (x :: s) y := by
  intro h
  cases y with
  | nil => have := h.2; simp at this
  | cons v y =>
    obtain ⟨⟨v0, v1, _⟩, r, e, _⟩ := h.tail
    rcases enc_ways v with ⟨_, f⟩ | ⟨_, _, f⟩ | ⟨_, _, f⟩ | ⟨_, f⟩ <;> (rw [f] at e; simp at e; omega)
theorem enc_mid {v : Int} (h : okR v) {k : Nat} (hk0 : 0 < k) (hk : k < (enc v).length) (r : List Int) : ∃ x s, (enc v ++ r).drop k = x :: s ∧ 128 ≤ x ∧ x < 192 := by
  obtain ⟨v0, v1, _⟩ := h
  rcases enc_ways v with ⟨_, f⟩ | ⟨_, _, f⟩ | ⟨_, _, f⟩ | ⟨_, f⟩ <;> rw [f] at hk ⊢ <;> simp at hk
  · omega
  · obtain rfl : k = 1 := by omega
    exact ⟨_, _, rfl, by omega, by omega⟩
  · have : k = 1 ∨ k = 2 := by omega
    rcases this with rfl | rfl
    · exact ⟨_, _, rfl, by omega, by omega⟩
    · exact ⟨_, _, rfl, by omega, by omega⟩
  · have : k = 1 ∨ k = 2 ∨ k = 3 := by omega
    rcases this with rfl | rfl | rfl
    · exact ⟨_, _, rfl, by omega, by omega⟩
    · exact ⟨_, _, rfl, by omega, by omega⟩
    · exact ⟨_, _, rfl, by omega, by omega⟩
theorem edge_drop : ∀ {l b : List Int} {k : Nat} {y : List Int}, Txt b l → k ≤ b.length → Txt (b.drop k) y → edge l k
  | [], b, k, y, h, hk, _ => by
    have := h.2
    simp at this
    subst this
    simp at hk
    exact ⟨0, by simp, by simp [hk]⟩
  | v :: l, b, k, y, h, hk, hy => by
    obtain ⟨hv, r, rfl, hr⟩ := h.tail
    by_cases h0 : k = 0
    · subst h0; exact ⟨0, by simp, by simp⟩
    · by_cases h1 : k < (enc v).length
      · obtain ⟨x, s, e, h2, h3⟩ := enc_mid hv (by omega) h1 r
        rw [e] at hy
        exact absurd hy (mid_none h2 h3)
      · rw [List.length_append] at hk
        rw [List.drop_append, List.drop_of_length_le (by omega), List.nil_append] at hy
        obtain ⟨i, hi, e⟩ := edge_drop (k := k - (enc v).length) hr (by omega) hy
        refine ⟨i + 1, by simp; omega, ?_⟩
        simp only [List.take_succ_cons, List.flatMap_cons, List.length_append]
        omega
theorem cut_take {b l : List Int} (h : Txt b l) {k : Nat} (hk : k ≤ b.length) : isT (b.take k) = edgeB l k (l.length + 1) := by
  by_cases he : edge l k
  · obtain ⟨x, y, hx, hy⟩ := cut_edge h he
    rw [isT_true hx, (edge_iff l k).2 he]
  · rw [isT_false fun x hx => he (edge_take h hk hx), Bool.eq_false_iff.2 fun e => he ((edge_iff l k).1 e)]
theorem cut_drop {b l : List Int} (h : Txt b l) {k : Nat} (hk : k ≤ b.length) : isT (b.drop k) = edgeB l k (l.length + 1) := by
  by_cases he : edge l k
  · obtain ⟨x, y, hx, hy⟩ := cut_edge h he
    rw [isT_true hy, (edge_iff l k).2 he]
  · rw [isT_false fun x hx => he (edge_drop h hk hx), Bool.eq_false_iff.2 fun e => he ((edge_iff l k).1 e)]
theorem tail_run (g off n c p : Nat) (hp : p ≤ n) (hc : n ≤ c) (W : World) :
    (Instr.sliceAt 22 (.slice (some ⟨g, off, none⟩) n c) (some (.int .i64 (p : Int))) none none).run Try.prog W = .ok (.slice (some ⟨g, offAt off c p, none⟩) (n - p) (c - p)) W := by
  have e1 : (p : Int) ≤ (n : Int) := by omega
  unfold offAt
  by_cases hcp : c = p
  · subst hcp
    obtain rfl : n = c := by omega
    go_simp
  · rw [if_neg hcp]
    go_simp
theorem tail_sl {w : World} {g off n c k : Nat} {l : List Int} (h : Sl w (.slice (some ⟨g, off, none⟩) n c) l) (hk : k ≤ n) (hn : l.length = n) : Sl w (.slice (some ⟨g, offAt off c k, none⟩) (n - k) (c - k)) (l.drop k) := by
  obtain ⟨A, c', e, h2, h3, h4⟩ := h
  injection e with e1 e2 e3
  subst e3
  refine ⟨_, _, by rw [List.length_drop, hn], by rw [List.length_drop]; omega, by omega, fun h0 => ?_⟩
  have hlt : k < n := by
    rcases Nat.lt_or_ge k n with h | h
    · exact h
    · exact absurd (List.drop_eq_nil_of_le (by omega)) h0
  obtain ⟨g', off', e', hB⟩ := h4 (fun e => by rw [e] at hn; simp at hn; omega)
  rw [← e1] at e'
  injection e' with e'
  injection e' with ea eb
  subst ea eb
  refine ⟨_, _, rfl, ?_⟩
  unfold offAt
  rw [if_neg (by omega)]
  exact hB.drop k
theorem head_sl {w : World} {A : Option Addr} {n c k : Nat} {l : List Int} (h : Sl w (.slice A n c) l) (hk : k ≤ n) (hn : l.length = n) : Sl w (.slice A k c) (l.take k) := by
  obtain ⟨A', c', e, h2, h3, h4⟩ := h
  injection e with e1 e2 e3
  subst e1 e3
  refine ⟨_, _, by rw [List.length_take, Nat.min_eq_left (by omega)], by rw [List.length_take]; omega, h3, fun h0 => ?_⟩
  obtain ⟨g, off, e', hB⟩ := h4 (fun e => by rw [e] at h0; simp at h0)
  exact ⟨g, off, e', hB.take k⟩
/-- A text of the call's own, cut in two. -/
theorem own_cut {w : World} {B : Nat} {v : Value} {q : List Int} (h : OwnB w B v q) (hq : q.length ≤ 1000) : ∃ A c, v = .slice A q.length c ∧ ∀ k, k ≤ q.length → ∃ u1 u2,
    (∀ W, (Instr.sliceAt 22 (.slice A q.length c) none (some (.int .i64 (k : Int))) none).run Try.prog W = .ok u1 W) ∧ Sl w u1 (q.take k) ∧
    (∀ W, (Instr.sliceAt 22 (.slice A q.length c) (some (.int .i64 (k : Int))) none none).run Try.prog W = .ok u2 W) ∧ Sl w u2 (q.drop k) := by
  have hs := h.sl
  rcases h.2 with ⟨e, h0⟩ | ⟨g, cap, cur, e, _, _, hle, hm, _⟩
  · obtain rfl : q = [] := List.length_eq_zero_iff.1 h0
    refine ⟨none, 0, e, fun k hk => ?_⟩
    obtain rfl : k = 0 := by simp at hk; exact hk
    refine ⟨.slice none 0 0, .slice none 0 0, fun W => ?_, Sl.nil w, fun W => ?_, Sl.nil w⟩
    · show (Instr.sliceAt 22 (.slice none 0 0) none (some (.int .i64 0)) none).run Try.prog W = _
      go_simp
    · show (Instr.sliceAt 22 (.slice none 0 0) (some (.int .i64 0)) none none).run Try.prog W = _
      go_simp
  · refine ⟨_, cap, e, fun k hk => ?_⟩
    rw [e] at hs
    unfold maxLen at hm
    refine ⟨_, _, fun W => ?_, head_sl hs hk rfl, fun W => tail_run g 0 q.length cap k hk hle W, tail_sl hs hk rfl⟩
    have e1 : (k : Int) ≤ (cap : Int) := by omega
    go_simp
/-- One number of those that came in. -/
theorem sub_run {w : World} {A : Option Addr} {c : Nat} {l : List Int} (h : SlI w (.slice A l.length c) l) {j : Nat} (hj : j < l.length) : ∃ u,
    (∀ W, (Instr.sliceAt 23 (.slice A l.length c) (some (.int .i64 (j : Int))) (some (.int .i64 ((j : Int) + 1))) none).run Try.prog W = .ok u W) ∧ SlI w u [l.getD j 0] := by
  obtain ⟨A', c', e, h2, h3, h4⟩ := h
  injection e with e1 e2 e3
  subst e1 e3
  obtain ⟨g, off, rfl, hg, hI⟩ := h4 (fun e => by rw [e] at hj; simp at hj)
  refine ⟨.slice (some ⟨g, off + j, none⟩) 1 (c - j), fun W => ?_, _, _, rfl, by simp; omega, by omega, fun _ => ⟨g, off + j, rfl, hg, fun i hi => ?_⟩⟩
  · have e1 : (j : Int) ≤ (j : Int) + 1 := by omega
    have e2 : (j : Int) + 1 ≤ (c : Int) := by omega
    have e3 : ((j : Int) + 1).toNat = j + 1 := by omega
    have e4 : j + 1 - j = 1 := by omega
    have e5 : ¬ c = j := by omega
    go_simp
  · obtain rfl : i = 0 := by simp at hi; omega
    exact hI j hj
theorem flat_one (v : Int) : [v].flatMap enc = enc v := by simp
theorem cut_core (A : Option Addr) (c : Nat) (a at_ : Int) (l : List Int) (w : World) (ha : bits .and .i64 at_ 65535 = a) (h0 : 0 ≤ a) (h1 : a ≤ 65535) (hv : SlI w (.slice A l.length c) l) (hl : l.length ≤ 100) (hok : ∀ v ∈ l, okR v) :
    Calls Try.prog 8 #[.slice A l.length c, .int .i64 at_] w fun e w' => e = .returned (.bool true) ∧ Below w.heap.size w w' := by
  have HV := Lib.hid hv
  have HOK := Lib.hid hok
  have HSub : Hid (∀ j, j < l.length → ∃ u, (∀ W, (Instr.sliceAt 23 (.slice A l.length c) (some (.int .i64 (j : Int))) (some (.int .i64 ((j : Int) + 1))) none).run Try.prog W = .ok u W) ∧ SlI w u [l.getD j 0]) := fun j hj => sub_run hv hj
  clear hv hok
  have t1 : decide ((100 : Int) < (l.length : Int)) = false := by simp; omega
  go_enter Try.func8, Try.ntmps8
  go_wp2_with fail
  refine (awake_any _).mono ?_
  rintro e w1 ⟨rfl, hb1⟩
  have HB1 := Lib.hid hb1
  clear hb1
  go_wp2_with fail
  refine (pfrom_any _ l w1 (HV.out.keep HB1.out) (by omega)).mono ?_
  rintro e w2 ⟨(⟨_, o, rfl, ho⟩ | ⟨⟨y, hy, hny⟩, rfl⟩), hb2⟩
  · have HB2 := Lib.hid (HB1.out.trans (hb2.mono HB1.out.size))
    have hT : Txt (l.flatMap enc) l := ⟨HOK.out, rfl⟩
    have hq : (l.flatMap enc).length ≤ 400 := by have := flat_len l; omega
    have HY := Lib.hid (txt_byte hT)
    have HT := Lib.hid hT
    have HL : Hid (∀ i, l.length ≤ i → lens l i = (l.flatMap enc).length) := fun i hi => lens_all hi
    have HM : Hid (∀ i, lens l i ≤ 400) := fun i => by
      have h1 := flat_len (l.take i)
      rw [List.length_take] at h1
      unfold lens
      omega
    have hoc := own_cut ho (by omega)
    clear hb2 ho hT
    revert hq HY HT HL hoc
    generalize l.flatMap enc = q
    intro hq HY HT HL hoc
    obtain ⟨A2, c2, rfl, hcut⟩ := hoc
    have HC := Lib.hid hcut
    clear hcut
    obtain ⟨k, hk, hkq⟩ : ∃ k : Nat, a % ((q.length : Int) + 1) = (k : Int) ∧ k ≤ q.length := ⟨(a % ((q.length : Int) + 1)).toNat, by
      have := Int.emod_nonneg a (show ((q.length : Int) + 1) ≠ 0 by omega)
      omega, by
      have := Int.emod_nonneg a (show ((q.length : Int) + 1) ≠ 0 by omega)
      have := Int.emod_lt_of_pos a (show 0 < ((q.length : Int) + 1) by omega)
      omega⟩
    have HK := Lib.hid hk
    clear hk
    go_wp2_with fail
    rw [HK.out]
    have HZ : Hid (lens l 0 = 0 ∧ edgeB l k 0 = false) := ⟨lens_zero l, rfl⟩
    go_loopw [9, 10, 11] (fun n e i wr => ∃ j : Nat, n = .int .i64 ((lens l j : Nat) : Int) ∧ e = .bool (edgeB l k j) ∧ i = .int .i64 (j : Int) ∧ j ≤ l.length + 1 ∧ Below w2.heap.size w2 wr) (fun _ _ i _ => l.length + 1 - (intOf i).toNat)
    case atStart => exact ⟨0, by rw [HZ.out.1]; rfl, by rw [HZ.out.2], rfl, Nat.zero_le _, Below.refl _ _⟩
    case round =>
      obtain ⟨j, rfl, rfl, rfl, hj, hbel⟩ := hrel
      have HBel := Lib.hid hbel
      have hm := HM.out j
      have HE : Hid (edgeB l k (j + 1) = (edgeB l k j || decide (lens l j = k))) := rfl
      clear hbel
      by_cases hle : j ≤ l.length
      · by_cases hlt : j < l.length
        · obtain ⟨u, hsl, hu⟩ := HSub.out j hlt
          have HU := Lib.hid hu
          have HLM := Lib.hid (lens_more hlt)
          have HM1 : Hid (okR (l.getD j 0)) := by
            show okR _
            refine HOK.out _ ?_
            rw [show l.getD j 0 = l[j] from by simp [hlt]]
            exact List.getElem_mem _
          clear hu
          revert HU HLM HM1
          generalize l.getD j 0 = x
          intro HU HLM HM1
          have hx4 := (enc_len x).2
          revert HE HLM hm
          generalize edgeB l k j = e0
          generalize lens l j = m
          intro hm HE HLM
          have HF : Hid (∀ W, Below w2.heap.size w2 W → Calls Try.prog 12 #[u] W (FrEnds [x] W)) := fun W hW => pfrom_any u [x] W (HU.out.keep (HB2.out.trans (hW.mono HB2.out.size))) (by simp)
          by_cases hmk : m = k
          · have hmk1 : ((m : Int) == (k : Int)) = true := by simp [hmk]
            rw [decide_eq_true hmk, Bool.or_true] at HE
            clear hmk
            cases e0 with
            | true =>
              go_wp2_with fail
              refine (HF.out _ HBel.out).mono ?_
              rintro e w3 ⟨(⟨_, o3, rfl, ho3⟩ | ⟨⟨y, hy, hny⟩, rfl⟩), hb3⟩
              · rw [flat_one] at ho3
                obtain ⟨A3, c3, rfl, _⟩ := ho3.row
                have HB3 := Lib.hid (HBel.out.trans (hb3.mono HBel.out.size))
                clear ho3 hb3
                go_wp2_with fail
                go_roundw
                case rel => exact ⟨j + 1, by rw [HLM.out]; go_num, by rw [HE.out], by go_num, by omega, HB3.out⟩
                case measure => simp [intOf]; omega
              · rw [show y = x from by simpa using hy] at hny
                exact absurd HM1.out hny
            | false =>
              go_wp2_with fail
              refine (HF.out _ HBel.out).mono ?_
              rintro e w3 ⟨(⟨_, o3, rfl, ho3⟩ | ⟨⟨y, hy, hny⟩, rfl⟩), hb3⟩
              · rw [flat_one] at ho3
                obtain ⟨A3, c3, rfl, _⟩ := ho3.row
                have HB3 := Lib.hid (HBel.out.trans (hb3.mono HBel.out.size))
                clear ho3 hb3
                go_wp2_with fail
                go_roundw
                case rel => exact ⟨j + 1, by rw [HLM.out]; go_num, by rw [HE.out], by go_num, by omega, HB3.out⟩
                case measure => simp [intOf]; omega
              · rw [show y = x from by simpa using hy] at hny
                exact absurd HM1.out hny
          · have hmk1 : ((m : Int) == (k : Int)) = false := by simp; omega
            rw [decide_eq_false hmk, Bool.or_false] at HE
            clear hmk
            cases e0 with
            | true =>
              go_wp2_with fail
              refine (HF.out _ HBel.out).mono ?_
              rintro e w3 ⟨(⟨_, o3, rfl, ho3⟩ | ⟨⟨y, hy, hny⟩, rfl⟩), hb3⟩
              · rw [flat_one] at ho3
                obtain ⟨A3, c3, rfl, _⟩ := ho3.row
                have HB3 := Lib.hid (HBel.out.trans (hb3.mono HBel.out.size))
                clear ho3 hb3
                go_wp2_with fail
                go_roundw
                case rel => exact ⟨j + 1, by rw [HLM.out]; go_num, by rw [HE.out], by go_num, by omega, HB3.out⟩
                case measure => simp [intOf]; omega
              · rw [show y = x from by simpa using hy] at hny
                exact absurd HM1.out hny
            | false =>
              go_wp2_with fail
              refine (HF.out _ HBel.out).mono ?_
              rintro e w3 ⟨(⟨_, o3, rfl, ho3⟩ | ⟨⟨y, hy, hny⟩, rfl⟩), hb3⟩
              · rw [flat_one] at ho3
                obtain ⟨A3, c3, rfl, _⟩ := ho3.row
                have HB3 := Lib.hid (HBel.out.trans (hb3.mono HBel.out.size))
                clear ho3 hb3
                go_wp2_with fail
                go_roundw
                case rel => exact ⟨j + 1, by rw [HLM.out]; go_num, by rw [HE.out], by go_num, by omega, HB3.out⟩
                case measure => simp [intOf]; omega
              · rw [show y = x from by simpa using hy] at hny
                exact absurd HM1.out hny
        · obtain rfl : j = l.length := by omega
          have HLM : Hid (lens l (l.length + 1) = lens l l.length) := by show _ = _; rw [HL.out _ (Nat.le_refl _), HL.out _ (by omega)]
          revert HE HLM hm
          generalize edgeB l k l.length = e0
          generalize lens l l.length = m
          intro hm HE HLM
          by_cases hmk : m = k
          · have hmk1 : ((m : Int) == (k : Int)) = true := by simp [hmk]
            rw [decide_eq_true hmk, Bool.or_true] at HE
            clear hmk
            cases e0 with
            | true =>
              go_wp2_with fail
              go_roundw
              case rel => exact ⟨l.length + 1, by rw [HLM.out], by rw [HE.out], by go_num, by omega, HBel.out⟩
              case measure => simp [intOf]
            | false =>
              go_wp2_with fail
              go_roundw
              case rel => exact ⟨l.length + 1, by rw [HLM.out], by rw [HE.out], by go_num, by omega, HBel.out⟩
              case measure => simp [intOf]
          · have hmk1 : ((m : Int) == (k : Int)) = false := by simp; omega
            rw [decide_eq_false hmk, Bool.or_false] at HE
            clear hmk
            cases e0 with
            | true =>
              go_wp2_with fail
              go_roundw
              case rel => exact ⟨l.length + 1, by rw [HLM.out], by rw [HE.out], by go_num, by omega, HBel.out⟩
              case measure => simp [intOf]
            | false =>
              go_wp2_with fail
              go_roundw
              case rel => exact ⟨l.length + 1, by rw [HLM.out], by rw [HE.out], by go_num, by omega, HBel.out⟩
              case measure => simp [intOf]
      · obtain rfl : j = l.length + 1 := by omega
        have HQ := Lib.hid (HL.out (l.length + 1) (by omega))
        obtain ⟨u1, u2, hr1, hs1, hr2, hs2⟩ := HC.out k hkq
        have HS1 := Lib.hid (hs1.keep HBel.out)
        have HT1 := Lib.hid (cut_take HT.out hkq)
        have HT2 := Lib.hid (cut_drop HT.out hkq)
        have HY1 : Hid (∀ x ∈ q.take k, 0 ≤ x ∧ x < 256) := fun x hx => HY.out x (List.mem_of_mem_take hx)
        have HY2 : Hid (∀ x ∈ q.drop k, 0 ≤ x ∧ x < 256) := fun x hx => HY.out x (List.mem_of_mem_drop hx)
        have HP1 := Lib.hid (pvalid_any u1 (q.take k) _ HY1.out HS1.out)
        rw [HT1.out] at HP1
        have HP2 : Hid (∀ W, Below w2.heap.size w2 W → Calls Try.prog 18 #[u2] W fun e w' => e = .returned (.bool (edgeB l k (l.length + 1))) ∧ Below W.heap.size W w') := fun W hW => by
          have := pvalid_any u2 (q.drop k) W HY2.out (hs2.keep hW)
          rw [HT2.out] at this
          exact this
        have hq2 : ((lens l (l.length + 1) : Nat) : Int) = (q.length : Int) := by rw [HQ.out]
        rw [hq2]
        clear hs1 hs2 HE hm hle hq2 HT1 HT2
        revert HP1 HP2
        generalize edgeB l k (l.length + 1) = e0
        intro HP1 HP2
        cases e0 with
        | true =>
          go_wp2_with fail
          refine HP1.out.mono ?_
          rintro e w3 ⟨rfl, hb3⟩
          have HB3 := Lib.hid (HBel.out.trans (hb3.mono HBel.out.size))
          clear hb3
          go_wp2_with fail
          refine (HP2.out _ HB3.out).mono ?_
          rintro e w4 ⟨rfl, hb4⟩
          have HB4 := Lib.hid (HB2.out.trans ((HB3.out.trans (hb4.mono HB3.out.size)).mono HB2.out.size))
          clear hb4
          go_wp2_with fail
          go_ret
          exact ⟨rfl, HB4.out⟩
        | false =>
          go_wp2_with fail
          refine HP1.out.mono ?_
          rintro e w3 ⟨rfl, hb3⟩
          have HB3 := Lib.hid (HBel.out.trans (hb3.mono HBel.out.size))
          clear hb3
          go_wp2_with fail
          refine (HP2.out _ HB3.out).mono ?_
          rintro e w4 ⟨rfl, hb4⟩
          have HB4 := Lib.hid (HB2.out.trans ((HB3.out.trans (hb4.mono HB3.out.size)).mono HB2.out.size))
          clear hb4
          go_wp2_with fail
          go_ret
          exact ⟨rfl, HB4.out⟩
  · exact absurd (HOK.out y hy) hny
theorem cut_bad (A : Option Addr) (c : Nat) (at_ : Int) (l : List Int) (w : World) (hv : SlI w (.slice A l.length c) l) (hl : l.length ≤ 100) (hno : ∃ v ∈ l, ¬ okR v) :
    Calls Try.prog 8 #[.slice A l.length c, .int .i64 at_] w fun e w' => e = .returned (.bool true) ∧ Below w.heap.size w w' := by
  have HV := Lib.hid hv
  have HNO := Lib.hid hno
  clear hv hno
  have t1 : decide ((100 : Int) < (l.length : Int)) = false := by simp; omega
  go_enter Try.func8, Try.ntmps8
  go_wp2_with fail
  refine (awake_any _).mono ?_
  rintro e w1 ⟨rfl, hb1⟩
  have HB1 := Lib.hid hb1
  clear hb1
  go_wp2_with fail
  refine (pfrom_any _ l w1 (HV.out.keep HB1.out) (by omega)).mono ?_
  rintro e w2 ⟨(⟨hall, _⟩ | ⟨_, rfl⟩), hb2⟩
  · obtain ⟨y, hy, hny⟩ := HNO.out
    exact absurd (hall y hy) hny
  · have HB2 := Lib.hid (HB1.out.trans (hb2.mono HB1.out.size))
    clear hb2
    go_wp2_with fail
    go_ret
    exact ⟨rfl, HB2.out⟩
theorem cut_big (A : Option Addr) (n c : Nat) (at_ : Int) (w : World) (h : 100 < n) (hm : n ≤ 9223372036854775807) :
    Calls Try.prog 8 #[.slice A n c, .int .i64 at_] w fun e w' => e = .returned (.bool true) ∧ Below w.heap.size w w' := by
  have t1 : decide ((100 : Int) < (n : Int)) = true := by simp; omega
  clear h
  go_enter Try.func8, Try.ntmps8
  go_wp2_with fail
  refine (awake_any _).mono ?_
  rintro e w1 ⟨rfl, hb1⟩
  go_wp2_with fail
  go_ret
  exact ⟨rfl, hb1⟩
theorem cut_any (a : Option Addr) (len cap : Nat) (zs : List Int) (at_ : Int) (w : World) (h1 : Leb.Came .i64 w a len cap zs) :
    Calls Try.prog 8 #[.slice a len cap, .int .i64 at_] w fun e w' => e = .returned (.bool true) ∧ Below w.heap.size w w' := by
  obtain ⟨p1, p2, p3, _⟩ := came_parts h1
  have s1 := came_slI h1
  by_cases h : 100 < len
  · exact cut_big a len cap at_ w h (by omega)
  · have key : Calls Try.prog 8 #[.slice a (zs.take len).length cap, .int .i64 at_] w fun e w' => e = .returned (.bool true) ∧ Below w.heap.size w w' := by
      by_cases hok : ∀ v ∈ zs.take len, okR v
      · exact cut_core a cap (at_ % 65536) at_ (zs.take len) w (i64_and16 at_) (by omega) (by omega) (by rw [p1]; exact s1) (by omega) hok
      · exact cut_bad a cap at_ (zs.take len) w (by rw [p1]; exact s1) (by omega) (by
          refine Classical.byContradiction fun hn => hok fun v hv => Classical.byContradiction fun hv2 => hn ⟨v, hv, hv2⟩)
    rw [p1] at key
    exact key
end Go.Proofs.Ytfilcddkcbdbnaa.Utf
