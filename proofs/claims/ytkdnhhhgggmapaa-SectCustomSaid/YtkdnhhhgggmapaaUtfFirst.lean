/- The document's first number, walked: what any bytes begin with. -/
import Derived.Test.YtkdnhhhgggmapaaUtfFirstA
import Derived.Test.YtkdnhhhgggmapaaUtfFirstB
namespace Go.Proofs.Ytkdnhhhgggmapaa.Utf
open Go.RowKit
set_option maxRecDepth 100000
set_option maxHeartbeats 400000

/-- The number that bytes begin with, and how many they are; 0 and 0: none. -/
def fstN (l : List Int) : Int × Int := match dec l with | some (v, n) => (v, (n : Int)) | none => (0, 0)
theorem fst_some {v : Int} {l : List Int} (hv : okR v) (t : List Int) (h : l = enc v ++ t) : fstN l = (v, ((enc v).length : Int)) := by
  unfold fstN
  rw [h, dec_enc hv]
theorem fst_none {l : List Int} (hb : ∀ x ∈ l, 0 ≤ x ∧ x < 256) (h : ∀ v t, okR v → l = enc v ++ t → False) : fstN l = (0, 0) := by
  unfold fstN
  cases hd : dec l with
  | none => rfl
  | some p =>
    obtain ⟨v, n⟩ := p
    obtain ⟨hv, _, e⟩ := dec_some hb hd
    exact (h v _ hv e).elim
theorem Byt.at0 {w : World} {B g off : Nat} {a : Int} {l : List Int} (h : Byt w B ⟨g, off, none⟩ (a :: l)) : w.cell? ⟨g, off, none⟩ = some (.int .u8 a) := by simpa using h.2.2 0 (by simp)
theorem Byt.at1 {w : World} {B g off : Nat} {a b : Int} {l : List Int} (h : Byt w B ⟨g, off, none⟩ (a :: b :: l)) : w.cell? ⟨g, off + 1, none⟩ = some (.int .u8 b) := by simpa using h.2.2 1 (by simp)
theorem Byt.at2 {w : World} {B g off : Nat} {a b c : Int} {l : List Int} (h : Byt w B ⟨g, off, none⟩ (a :: b :: c :: l)) : w.cell? ⟨g, off + 2, none⟩ = some (.int .u8 c) := by simpa using h.2.2 2 (by simp)
theorem Byt.at3 {w : World} {B g off : Nat} {a b c d : Int} {l : List Int} (h : Byt w B ⟨g, off, none⟩ (a :: b :: c :: d :: l)) : w.cell? ⟨g, off + 3, none⟩ = some (.int .u8 d) := by simpa using h.2.2 3 (by simp)
/-- How first ends. -/
def FstEnds (l : List Int) (w : World) (e : Ending) (w' : World) : Prop := e = .returned (.tuple #[.int .i64 (fstN l).1, .int .i64 (fstN l).2]) ∧ Below w.heap.size w w'
theorem ends_none {l : List Int} {w : World} (h : fstN l = (0, 0)) {e : Ending} {w' : World} (hh : e = .returned (.tuple #[.int .i64 0, .int .i64 0]) ∧ w = w') : FstEnds l w e w' := by
  obtain ⟨rfl, rfl⟩ := hh
  exact ⟨by rw [h], Below.refl _ _⟩
theorem ends_zero {l : List Int} {w : World} (h : fstN l = (0, 0)) {e : Ending} {w' : World} (hh : e = .returned (.tuple #[.int .i64 0, .int .i64 0]) ∧ Below w.heap.size w w') : FstEnds l w e w' := by
  obtain ⟨rfl, hb⟩ := hh
  exact ⟨by rw [h], hb⟩
theorem ends_at {l : List Int} {w : World} {v n : Int} (h : fstN l = (v, n)) {e : Ending} {w' : World} (hh : e = .returned (.tuple #[.int .i64 v, .int .i64 n]) ∧ Below w.heap.size w w') : FstEnds l w e w' := by
  obtain ⟨rfl, hb⟩ := hh
  exact ⟨by rw [h], hb⟩
/-- The bytes of which a number is made up are its own, or it has none. -/
theorem tail_of {V : Int} {n : Nat} {l : List Int} (hb : ∀ x ∈ l, 0 ≤ x ∧ x < 256) (hn : n ≤ l.length) (hn1 : 1 ≤ n) (huniq : ∀ v t, okR v → l = enc v ++ t → v = V ∧ (enc v).length = n) :
    (strOfNums (layL V) = strOfNums (l.take n) ∧ fstN l = (V, (n : Int))) ∨ (¬ strOfNums (layL V) = strOfNums (l.take n) ∧ fstN l = (0, 0)) := by
  by_cases h : layL V = l.take n
  · left
    have hok : okR V := by
      by_cases hk : okR V
      · exact hk
      · rw [show layL V = [] from if_neg hk] at h
        have := congrArg List.length h
        rw [List.length_take] at this
        simp at this
        omega
    rw [show layL V = enc V from if_pos hok] at h ⊢
    refine ⟨by rw [h], ?_⟩
    have e : l = enc V ++ l.drop n := by rw [h, List.take_append_drop]
    rw [fst_some hok _ e, h, List.length_take, Nat.min_eq_left hn]
  · right
    refine ⟨fun e => h (str_inj ?_ (fun x hx => hb x (List.mem_of_mem_take hx)) e), fst_none hb fun v t hv e => ?_⟩
    · intro x hx
      unfold layL at hx
      split at hx
      · rename_i hk; exact enc_byte hk x hx
      · cases hx
    · obtain ⟨rfl, hl⟩ := huniq v t hv e
      apply h
      rw [show layL v = enc v from if_pos hv, e, ← hl, List.take_left]
theorem first_any (g off k : Nat) (l : List Int) (w : World) (h0 : l ≠ []) (hb : ∀ x ∈ l, 0 ≤ x ∧ x < 256) (hB : Byt w w.heap.size ⟨g, off, none⟩ l) (hc : l.length ≤ k) (hm : k ≤ 9223372036854775807) :
    Calls Try.prog 48 #[.slice (some ⟨g, off, none⟩) l.length k] w (FstEnds l w) := by
  match l, h0 with
  | a :: l1, _ =>
    have ha := hb a (by simp)
    have hlen : (a :: l1).length ≤ 9223372036854775807 := by omega
    by_cases h1 : a < 128
    · have hv : okR a := ⟨by omega, by omega, by omega⟩
      refine (first_1e g off k a (a :: l1) w ha.1 h1 (by simp) hc hm hB.at0 hB ?_).mono fun e w' h => ends_at ?_ h
      · rw [show layL a = enc a from if_pos hv, enc1 h1]; rfl
      · rw [fst_some hv l1 (by rw [enc1 h1]; rfl), enc1 h1]; rfl
    · by_cases h2 : a < 192
      · refine (first_mid g off k a (a :: l1).length w (by omega) h2 (by simp) hlen hB.at0).mono fun e w' h => ends_none (fst_none hb fun v t hv e => ?_) h
        obtain ⟨v0, v1, _⟩ := hv
        rcases enc_ways v with ⟨_, f⟩ | ⟨_, _, f⟩ | ⟨_, _, f⟩ | ⟨_, f⟩ <;> (rw [f] at e; simp at e; omega)
      · by_cases h3 : a < 224
        · match l1, hb, hB, hc, hlen with
          | [], hb, hB, hc, hlen =>
            refine (first_short2 g off k a _ w (by omega) h3 (by simp) (by simp) hlen hB.at0).mono fun e w' h => ends_none (fst_none hb fun v t hv e => ?_) h
            obtain ⟨v0, v1, _⟩ := hv
            rcases enc_ways v with ⟨_, f⟩ | ⟨_, _, f⟩ | ⟨_, _, f⟩ | ⟨_, f⟩ <;> (rw [f] at e; simp at e; try omega)
          | b :: l2, hb, hB, hc, hlen =>
            have hbb := hb b (by simp)
            by_cases hb1 : b < 128
            · refine (first_lo21 g off k a b _ w (by omega) h3 hbb.1 hb1 (by simp) hlen hB.at0 hB.at1).mono fun e w' h => ends_none (fst_none hb fun v t hv e => ?_) h
              obtain ⟨v0, v1, _⟩ := hv
              rcases enc_ways v with ⟨_, f⟩ | ⟨_, _, f⟩ | ⟨_, _, f⟩ | ⟨_, f⟩ <;> (rw [f] at e; simp at e; omega)
            · by_cases hb2 : 191 < b
              · refine (first_hi21 g off k a b _ w (by omega) h3 hb2 (by omega) (by simp) hlen hB.at0 hB.at1).mono fun e w' h => ends_none (fst_none hb fun v t hv e => ?_) h
                obtain ⟨v0, v1, _⟩ := hv
                rcases enc_ways v with ⟨_, f⟩ | ⟨_, _, f⟩ | ⟨_, _, f⟩ | ⟨_, f⟩ <;> (rw [f] at e; simp at e; omega)
              · have T := tail_of (V := (a - 192) * 64 + b - 128) (n := 2) hb (by simp) (by omega) (fun v t hv e => by
                  obtain ⟨v0, v1, _⟩ := hv
                  rcases enc_ways v with ⟨_, f⟩ | ⟨_, _, f⟩ | ⟨_, _, f⟩ | ⟨_, f⟩ <;> (rw [f] at e ⊢; simp at e ⊢; omega))
                rcases T with ⟨he, hf⟩ | ⟨he, hf⟩
                · exact (first_2e g off k a b _ w (by omega) h3 (by omega) (by omega) (by simp) hc hm hB.at0 hB.at1 hB he).mono fun e w' h => ends_at hf h
                · exact (first_2n g off k a b _ w (by omega) h3 (by omega) (by omega) (by simp) hc hm hB.at0 hB.at1 hB he).mono fun e w' h => ends_zero hf h
        · by_cases h4 : a < 240
          · match l1, hb, hB, hc, hlen with
            | [], hb, hB, hc, hlen =>
              refine (first_short3 g off k a _ w (by omega) h4 (by simp) (by simp) hlen hB.at0).mono fun e w' h => ends_none (fst_none hb fun v t hv e => ?_) h
              obtain ⟨v0, v1, _⟩ := hv
              rcases enc_ways v with ⟨_, f⟩ | ⟨_, _, f⟩ | ⟨_, _, f⟩ | ⟨_, f⟩ <;> (rw [f] at e; simp at e; try omega)
            | [b], hb, hB, hc, hlen =>
              refine (first_short3 g off k a _ w (by omega) h4 (by simp) (by simp) hlen hB.at0).mono fun e w' h => ends_none (fst_none hb fun v t hv e => ?_) h
              obtain ⟨v0, v1, _⟩ := hv
              rcases enc_ways v with ⟨_, f⟩ | ⟨_, _, f⟩ | ⟨_, _, f⟩ | ⟨_, f⟩ <;> (rw [f] at e; simp at e; try omega)
            | b :: c :: l2, hb, hB, hc, hlen =>
              have hbb := hb b (by simp)
              have hcc := hb c (by simp)
              by_cases hb1 : b < 128
              · refine (first_lo31 g off k a b _ w (by omega) h4 hbb.1 hb1 (by simp) hlen hB.at0 hB.at1).mono fun e w' h => ends_none (fst_none hb fun v t hv e => ?_) h
                obtain ⟨v0, v1, _⟩ := hv
                rcases enc_ways v with ⟨_, f⟩ | ⟨_, _, f⟩ | ⟨_, _, f⟩ | ⟨_, f⟩ <;> (rw [f] at e; simp at e; omega)
              · by_cases hb2 : 191 < b
                · refine (first_hi31 g off k a b _ w (by omega) h4 hb2 (by omega) (by simp) hlen hB.at0 hB.at1).mono fun e w' h => ends_none (fst_none hb fun v t hv e => ?_) h
                  obtain ⟨v0, v1, _⟩ := hv
                  rcases enc_ways v with ⟨_, f⟩ | ⟨_, _, f⟩ | ⟨_, _, f⟩ | ⟨_, f⟩ <;> (rw [f] at e; simp at e; omega)
                · by_cases hc1 : c < 128
                  · refine (first_lo32 g off k a b c _ w (by omega) h4 (by omega) (by omega) hcc.1 hc1 (by simp) hlen hB.at0 hB.at1 hB.at2).mono fun e w' h => ends_none (fst_none hb fun v t hv e => ?_) h
                    obtain ⟨v0, v1, _⟩ := hv
                    rcases enc_ways v with ⟨_, f⟩ | ⟨_, _, f⟩ | ⟨_, _, f⟩ | ⟨_, f⟩ <;> (rw [f] at e; simp at e; omega)
                  · by_cases hc2 : 191 < c
                    · refine (first_hi32 g off k a b c _ w (by omega) h4 (by omega) (by omega) hc2 (by omega) (by simp) hlen hB.at0 hB.at1 hB.at2).mono fun e w' h => ends_none (fst_none hb fun v t hv e => ?_) h
                      obtain ⟨v0, v1, _⟩ := hv
                      rcases enc_ways v with ⟨_, f⟩ | ⟨_, _, f⟩ | ⟨_, _, f⟩ | ⟨_, f⟩ <;> (rw [f] at e; simp at e; omega)
                    · have T := tail_of (V := ((a - 224) * 64 + b - 128) * 64 + c - 128) (n := 3) hb (by simp) (by omega) (fun v t hv e => by
                        obtain ⟨v0, v1, _⟩ := hv
                        rcases enc_ways v with ⟨_, f⟩ | ⟨_, _, f⟩ | ⟨_, _, f⟩ | ⟨_, f⟩ <;> (rw [f] at e ⊢; simp at e ⊢; omega))
                      rcases T with ⟨he, hf⟩ | ⟨he, hf⟩
                      · exact (first_3e g off k a b c _ w (by omega) h4 (by omega) (by omega) (by omega) (by omega) (by simp) hc hm hB.at0 hB.at1 hB.at2 hB he).mono fun e w' h => ends_at hf h
                      · exact (first_3n g off k a b c _ w (by omega) h4 (by omega) (by omega) (by omega) (by omega) (by simp) hc hm hB.at0 hB.at1 hB.at2 hB he).mono fun e w' h => ends_zero hf h
          · by_cases h5 : a < 248
            · by_cases hs : l1.length < 3
              · refine (first_short4 g off k a _ w (by omega) h5 (by simp) (by simp; omega) hlen hB.at0).mono fun e w' h => ends_none (fst_none hb fun v t hv e => ?_) h
                obtain ⟨v0, v1, _⟩ := hv
                have el := congrArg List.length e
                rcases enc_ways v with ⟨_, f⟩ | ⟨_, _, f⟩ | ⟨_, _, f⟩ | ⟨_, f⟩ <;> (rw [f] at e el; simp at e el; omega)
              · match l1, hb, hB, hc, hlen, hs with
                | [], hb, hB, hc, hlen, hs => simp at hs
                | [_], hb, hB, hc, hlen, hs => simp at hs
                | [_, _], hb, hB, hc, hlen, hs => simp at hs
                | b :: c :: d :: l2, hb, hB, hc, hlen, hs =>
                  have hbb := hb b (by simp)
                  have hcc := hb c (by simp)
                  have hdd := hb d (by simp)
                  have bad : (b < 128 ∨ 191 < b ∨ c < 128 ∨ 191 < c ∨ d < 128 ∨ 191 < d) → fstN (a :: b :: c :: d :: l2) = (0, 0) := fun hx => fst_none hb fun v t hv e => by
                    obtain ⟨v0, v1, _⟩ := hv
                    rcases enc_ways v with ⟨_, f⟩ | ⟨_, _, f⟩ | ⟨_, _, f⟩ | ⟨_, f⟩ <;> (rw [f] at e; simp at e; omega)
                  by_cases hb1 : b < 128
                  · exact (first_lo41 g off k a b _ w (by omega) h5 hbb.1 hb1 (by simp) hlen hB.at0 hB.at1).mono fun e w' h => ends_none (bad (by omega)) h
                  · by_cases hb2 : 191 < b
                    · exact (first_hi41 g off k a b _ w (by omega) h5 hb2 (by omega) (by simp) hlen hB.at0 hB.at1).mono fun e w' h => ends_none (bad (by omega)) h
                    · by_cases hc1 : c < 128
                      · exact (first_lo42 g off k a b c _ w (by omega) h5 (by omega) (by omega) hcc.1 hc1 (by simp) hlen hB.at0 hB.at1 hB.at2).mono fun e w' h => ends_none (bad (by omega)) h
                      · by_cases hc2 : 191 < c
                        · exact (first_hi42 g off k a b c _ w (by omega) h5 (by omega) (by omega) hc2 (by omega) (by simp) hlen hB.at0 hB.at1 hB.at2).mono fun e w' h => ends_none (bad (by omega)) h
                        · by_cases hd1 : d < 128
                          · exact (first_lo43 g off k a b c d _ w (by omega) h5 (by omega) (by omega) (by omega) (by omega) hdd.1 hd1 (by simp) hlen hB.at0 hB.at1 hB.at2 hB.at3).mono fun e w' h => ends_none (bad (by omega)) h
                          · by_cases hd2 : 191 < d
                            · exact (first_hi43 g off k a b c d _ w (by omega) h5 (by omega) (by omega) (by omega) (by omega) hd2 (by omega) (by simp) hlen hB.at0 hB.at1 hB.at2 hB.at3).mono fun e w' h => ends_none (bad (by omega)) h
                            · have T := tail_of (V := (((a - 240) * 64 + b - 128) * 64 + c - 128) * 64 + d - 128) (n := 4) hb (by simp) (by omega) (fun v t hv e => by
                                obtain ⟨v0, v1, _⟩ := hv
                                rcases enc_ways v with ⟨_, f⟩ | ⟨_, _, f⟩ | ⟨_, _, f⟩ | ⟨_, f⟩ <;> (rw [f] at e ⊢; simp at e ⊢; omega))
                              rcases T with ⟨he, hf⟩ | ⟨he, hf⟩
                              · exact (first_4e g off k a b c d _ w (by omega) h5 (by omega) (by omega) (by omega) (by omega) (by omega) (by omega) (by simp) hc hm hB.at0 hB.at1 hB.at2 hB.at3 hB he).mono fun e w' h => ends_at hf h
                              · exact (first_4n g off k a b c d _ w (by omega) h5 (by omega) (by omega) (by omega) (by omega) (by omega) (by omega) (by simp) hc hm hB.at0 hB.at1 hB.at2 hB.at3 hB he).mono fun e w' h => ends_zero hf h
            · refine (first_top g off k a _ w (by omega) (by omega) (by omega) (by omega) (by omega) (by simp) hlen hB.at0).mono fun e w' h => ends_none (fst_none hb fun v t hv e => ?_) h
              obtain ⟨v0, v1, _⟩ := hv
              rcases enc_ways v with ⟨_, f⟩ | ⟨_, _, f⟩ | ⟨_, _, f⟩ | ⟨_, f⟩ <;> (rw [f] at e; simp at e; omega)
end Go.Proofs.Ytkdnhhhgggmapaa.Utf
