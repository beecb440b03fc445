/- Texts: which bytes are a number's, which bytes are a text, and what its numbers are. Plain lists; nothing of any program. -/
import Derived.Lib.Hide
namespace Go.Proofs.Ytkdnhhhgggmapaa.Utf

/-- May a number be? Its bytes. -/
def okR (v : Int) : Prop := 0 ≤ v ∧ v ≤ 1114111 ∧ ¬ (55296 ≤ v ∧ v ≤ 57343)
instance (v : Int) : Decidable (okR v) := inferInstanceAs (Decidable (_ ∧ _ ∧ ¬ _))
def enc (v : Int) : List Int :=
  if v < 128 then [v] else if v < 2048 then [192 + v / 64, 128 + v % 64] else if v < 65536 then [224 + v / 4096, 128 + v / 64 % 64, 128 + v % 64]
  else [240 + v / 262144, 128 + v / 4096 % 64, 128 + v / 64 % 64, 128 + v % 64]
theorem enc1 {v : Int} (h : v < 128) : enc v = [v] := if_pos h
theorem enc2 {v : Int} (h1 : 128 ≤ v) (h2 : v < 2048) : enc v = [192 + v / 64, 128 + v % 64] := (if_neg (by omega)).trans (if_pos h2)
theorem enc3 {v : Int} (h1 : 2048 ≤ v) (h2 : v < 65536) : enc v = [224 + v / 4096, 128 + v / 64 % 64, 128 + v % 64] := (if_neg (by omega)).trans ((if_neg (by omega)).trans (if_pos h2))
theorem enc4 {v : Int} (h1 : 65536 ≤ v) : enc v = [240 + v / 262144, 128 + v / 4096 % 64, 128 + v / 64 % 64, 128 + v % 64] := (if_neg (by omega)).trans ((if_neg (by omega)).trans (if_neg (by omega)))
theorem enc_ways (v : Int) : (v < 128 ∧ enc v = [v]) ∨ (128 ≤ v ∧ v < 2048 ∧ enc v = [192 + v / 64, 128 + v % 64]) ∨ (2048 ≤ v ∧ v < 65536 ∧ enc v = [224 + v / 4096, 128 + v / 64 % 64, 128 + v % 64]) ∨ (65536 ≤ v ∧ enc v = [240 + v / 262144, 128 + v / 4096 % 64, 128 + v / 64 % 64, 128 + v % 64]) := by
  by_cases h1 : v < 128
  · exact .inl ⟨h1, enc1 h1⟩
  · by_cases h2 : v < 2048
    · exact .inr (.inl ⟨by omega, h2, enc2 (by omega) h2⟩)
    · by_cases h3 : v < 65536
      · exact .inr (.inr (.inl ⟨by omega, h3, enc3 (by omega) h3⟩))
      · exact .inr (.inr (.inr ⟨by omega, enc4 (by omega)⟩))
theorem enc_byte {v : Int} (h : okR v) : ∀ x ∈ enc v, 0 ≤ x ∧ x < 256 := by
  obtain ⟨h0, h1, _⟩ := h
  intro x hx
  rcases enc_ways v with ⟨_, e⟩ | ⟨_, _, e⟩ | ⟨_, _, e⟩ | ⟨_, e⟩ <;> (rw [e] at hx; simp at hx; omega)
theorem enc_len (v : Int) : 1 ≤ (enc v).length ∧ (enc v).length ≤ 4 := by
  rcases enc_ways v with ⟨_, e⟩ | ⟨_, _, e⟩ | ⟨_, _, e⟩ | ⟨_, e⟩ <;> (rw [e]; simp)
theorem enc_ne (v : Int) : enc v ≠ [] := fun h => by have := (enc_len v).1; rw [h] at this; simp at this
/-- A number's bytes are never the beginning of another's. -/
theorem enc_apart {v w : Int} {x y : List Int} (hv : okR v) (hw : okR w) (h : enc v ++ x = enc w ++ y) : v = w ∧ x = y := by
  obtain ⟨v0, v1, _⟩ := hv
  obtain ⟨w0, w1, _⟩ := hw
  rcases enc_ways v with ⟨_, e⟩ | ⟨_, _, e⟩ | ⟨_, _, e⟩ | ⟨_, e⟩ <;> rcases enc_ways w with ⟨_, f⟩ | ⟨_, _, f⟩ | ⟨_, _, f⟩ | ⟨_, f⟩ <;>
    (rw [e, f] at h; simp at h; first | (refine ⟨by omega, ?_⟩; first | exact h.2 | exact h.2.2 | exact h.2.2.2 | exact h.2.2.2.2) | omega)
/-- A text, and its numbers. -/
def Txt (b l : List Int) : Prop := (∀ v ∈ l, okR v) ∧ b = l.flatMap enc
theorem Txt.nil : Txt [] [] := ⟨by simp, rfl⟩
theorem Txt.cons {v : Int} {b l : List Int} (hv : okR v) (h : Txt b l) : Txt (enc v ++ b) (v :: l) := ⟨by
  intro x hx
  rcases List.mem_cons.1 hx with rfl | hx
  · exact hv
  · exact h.1 x hx, by rw [h.2]; rfl⟩
theorem Txt.append {a b x y : List Int} (h : Txt a x) (k : Txt b y) : Txt (a ++ b) (x ++ y) := ⟨fun v hv => by
  rcases List.mem_append.1 hv with hv | hv
  · exact h.1 v hv
  · exact k.1 v hv, by rw [h.2, k.2, List.flatMap_append]⟩
theorem Txt.tail {v : Int} {b l : List Int} (h : Txt b (v :: l)) : okR v ∧ ∃ r, b = enc v ++ r ∧ Txt r l := ⟨h.1 v (by simp), l.flatMap enc, h.2, fun x hx => h.1 x (by simp [hx]), rfl⟩
theorem Txt.empty {l : List Int} (h : Txt [] l) : l = [] := by
  cases l with
  | nil => rfl
  | cons v l =>
    obtain ⟨_, r, hr, _⟩ := h.tail
    have := enc_ne v
    simp at hr
    exact absurd hr.1 this
/-- A text has one lot of numbers; what stands behind a text's beginning is a text. -/
theorem Txt.rest : ∀ {x a b z : List Int}, Txt a x → Txt (a ++ b) z → ∃ y, Txt b y ∧ z = x ++ y
  | [], a, b, z, h, k => by
    obtain rfl : a = [] := by have := h.2; simpa using this
    exact ⟨z, by simpa using k, rfl⟩
  | v :: x, a, b, z, h, k => by
    obtain ⟨hv, r, rfl, hr⟩ := h.tail
    cases z with
    | nil =>
      have := k.2
      simp at this
      exact absurd this.1 (enc_ne v)
    | cons w z =>
      obtain ⟨hw, s, hs, hz⟩ := k.tail
      rw [List.append_assoc] at hs
      obtain ⟨rfl, rfl⟩ := enc_apart hv hw hs
      obtain ⟨y, hy, rfl⟩ := Txt.rest hr hz
      exact ⟨y, hy, rfl⟩
theorem Txt.one {b x y : List Int} (h : Txt b x) (k : Txt b y) : x = y := by
  obtain ⟨z, hz, e⟩ := Txt.rest h (show Txt (b ++ []) y by rw [List.append_nil]; exact k)
  rw [hz.empty] at e
  simpa using e.symm
/-- The number that bytes begin with. -/
def cont (x : Int) : Bool := decide (128 ≤ x ∧ x < 192)
def dec : List Int → Option (Int × Nat)
  | [] => none
  | a :: r =>
    if a < 128 then some (a, 1)
    else if 192 ≤ a ∧ a < 224 then
      match r with
      | b :: _ => if cont b = true ∧ 128 ≤ (a - 192) * 64 + (b - 128) then some ((a - 192) * 64 + (b - 128), 2) else none
      | _ => none
    else if 224 ≤ a ∧ a < 240 then
      match r with
      | b :: c :: _ => if cont b = true ∧ cont c = true ∧ 2048 ≤ (a - 224) * 4096 + (b - 128) * 64 + (c - 128) ∧ okR ((a - 224) * 4096 + (b - 128) * 64 + (c - 128)) then some ((a - 224) * 4096 + (b - 128) * 64 + (c - 128), 3) else none
      | _ => none
    else if 240 ≤ a ∧ a < 248 then
      match r with
      | b :: c :: d :: _ => if cont b = true ∧ cont c = true ∧ cont d = true ∧ 65536 ≤ (a - 240) * 262144 + (b - 128) * 4096 + (c - 128) * 64 + (d - 128) ∧ okR ((a - 240) * 262144 + (b - 128) * 4096 + (c - 128) * 64 + (d - 128)) then some ((a - 240) * 262144 + (b - 128) * 4096 + (c - 128) * 64 + (d - 128), 4) else none
      | _ => none
    else none
theorem cont_iff {x : Int} : cont x = true ↔ 128 ≤ x ∧ x < 192 := by simp [cont]
theorem dec_enc {v : Int} (hv : okR v) (r : List Int) : dec (enc v ++ r) = some (v, (enc v).length) := by
  have hv' := hv
  obtain ⟨v0, v1, v2⟩ := hv
  rcases enc_ways v with ⟨h, e⟩ | ⟨h, h2, e⟩ | ⟨h, h2, e⟩ | ⟨h, e⟩ <;> rw [e]
  · simp [dec, h]
  · show (if 192 + v / 64 < 128 then _ else _) = _
    rw [if_neg (by omega), if_pos (by omega)]
    show (if _ then _ else _) = _
    have ev : (192 + v / 64 - 192) * 64 + (128 + v % 64 - 128) = v := by omega
    rw [if_pos ⟨cont_iff.2 (by omega), by omega⟩, ev]
    rfl
  · show (if 224 + v / 4096 < 128 then _ else _) = _
    rw [if_neg (by omega), if_neg (by omega), if_pos (by omega)]
    show (if _ then _ else _) = _
    have ev : (224 + v / 4096 - 224) * 4096 + (128 + v / 64 % 64 - 128) * 64 + (128 + v % 64 - 128) = v := by omega
    rw [ev, if_pos ⟨cont_iff.2 (by omega), cont_iff.2 (by omega), by omega, hv'⟩]
    rfl
  · show (if 240 + v / 262144 < 128 then _ else _) = _
    rw [if_neg (by omega), if_neg (by omega), if_neg (by omega), if_pos (by omega)]
    show (if _ then _ else _) = _
    have ev : (240 + v / 262144 - 240) * 262144 + (128 + v / 4096 % 64 - 128) * 4096 + (128 + v / 64 % 64 - 128) * 64 + (128 + v % 64 - 128) = v := by omega
    rw [ev, if_pos ⟨cont_iff.2 (by omega), cont_iff.2 (by omega), cont_iff.2 (by omega), by omega, hv'⟩]
    rfl
theorem dec_some {b : List Int} {v : Int} {n : Nat} (hb : ∀ x ∈ b, 0 ≤ x ∧ x < 256) (h : dec b = some (v, n)) : okR v ∧ n = (enc v).length ∧ b = enc v ++ b.drop n := by
  cases b with
  | nil => cases h
  | cons a r =>
    have ha := hb a (by simp)
    unfold dec at h
    dsimp only at h
    by_cases h1 : a < 128
    · rw [if_pos h1] at h
      obtain ⟨rfl, rfl⟩ : a = v ∧ 1 = n := by simpa using h
      rw [enc1 h1]
      exact ⟨⟨by omega, by omega, by omega⟩, rfl, rfl⟩
    · rw [if_neg h1] at h
      by_cases h2 : 192 ≤ a ∧ a < 224
      · rw [if_pos h2] at h
        cases r with
        | nil => cases h
        | cons b r =>
          simp only at h
          split at h
          · rename_i hc
            obtain ⟨c1, c2⟩ := hc
            rw [cont_iff] at c1
            obtain ⟨rfl, rfl⟩ : (a - 192) * 64 + (b - 128) = v ∧ 2 = n := by simpa using h
            rw [enc2 (by omega) (by omega)]
            refine ⟨⟨by omega, by omega, by omega⟩, rfl, ?_⟩
            show _ = [_, _] ++ r
            simp only [List.cons_append, List.nil_append, List.cons.injEq, and_true]
            omega
          · cases h
      · rw [if_neg h2] at h
        by_cases h3 : 224 ≤ a ∧ a < 240
        · rw [if_pos h3] at h
          match r, h with
          | [], h => cases h
          | [_], h => cases h
          | b :: c :: r, h =>
            simp only at h
            split at h
            · rename_i hc
              obtain ⟨c1, c2, c3, c4⟩ := hc
              rw [cont_iff] at c1 c2
              obtain ⟨rfl, rfl⟩ : (a - 224) * 4096 + (b - 128) * 64 + (c - 128) = v ∧ 3 = n := by simpa using h
              rw [enc3 (by omega) (by omega)]
              refine ⟨c4, rfl, ?_⟩
              show _ = [_, _, _] ++ r
              simp only [List.cons_append, List.nil_append, List.cons.injEq, and_true]
              omega
            · cases h
        · rw [if_neg h3] at h
          by_cases h4 : 240 ≤ a ∧ a < 248
          · rw [if_pos h4] at h
            match r, h with
            | [], h => cases h
            | [_], h => cases h
            | [_, _], h => cases h
            | b :: c :: d :: r, h =>
              simp only at h
              split at h
              · rename_i hc
                obtain ⟨c1, c2, c3, c4, c5⟩ := hc
                rw [cont_iff] at c1 c2 c3
                obtain ⟨rfl, rfl⟩ : (a - 240) * 262144 + (b - 128) * 4096 + (c - 128) * 64 + (d - 128) = v ∧ 4 = n := by simpa using h
                rw [enc4 (by omega)]
                refine ⟨c5, rfl, ?_⟩
                show _ = [_, _, _, _] ++ r
                simp only [List.cons_append, List.nil_append, List.cons.injEq, and_true]
                omega
              · cases h
          · rw [if_neg h4] at h
            cases h
/-- Bytes that begin with no number are no text. -/
theorem dec_none {b l : List Int} (h : dec b = none) (hb : b ≠ []) : ¬ Txt b l := by
  intro k
  cases l with
  | nil => exact hb (by have := k.2; simpa using this)
  | cons v l =>
    obtain ⟨hv, r, rfl, _⟩ := k.tail
    rw [dec_enc hv] at h
    cases h
/-- A text, cut: both parts are texts just where a number ends. -/
def edge (l : List Int) (k : Nat) : Prop := ∃ i, i ≤ l.length ∧ k = ((l.take i).flatMap enc).length
theorem cut_edge {b l : List Int} (h : Txt b l) {k : Nat} (he : edge l k) : ∃ x y, Txt (b.take k) x ∧ Txt (b.drop k) y := by
  obtain ⟨i, hi, rfl⟩ := he
  have e : b = (l.take i).flatMap enc ++ (l.drop i).flatMap enc := by rw [← List.flatMap_append, List.take_append_drop]; exact h.2
  refine ⟨l.take i, l.drop i, ⟨fun v hv => h.1 v (List.mem_of_mem_take hv), ?_⟩, ⟨fun v hv => h.1 v (List.mem_of_mem_drop hv), ?_⟩⟩
  · rw [e, List.take_left]
  · rw [e, List.drop_left]
theorem edge_take {b l x : List Int} (h : Txt b l) {k : Nat} (hk : k ≤ b.length) (hx : Txt (b.take k) x) : edge l k := by
  obtain ⟨y, _, rfl⟩ := Txt.rest hx (show Txt (b.take k ++ b.drop k) l by rw [List.take_append_drop]; exact h)
  refine ⟨x.length, by simp, ?_⟩
  rw [List.take_left, ← hx.2]
  simp
  omega
/-- Txt of what stands behind: what stands ahead is one too. -/
theorem first_of {v : Int} {l b : List Int} (hv : okR v) (h : Txt (enc v ++ b) l) : ∃ m, l = v :: m ∧ Txt b m := by
  obtain ⟨y, hy, e⟩ := Txt.rest (x := [v]) (show Txt (enc v) [v] from ⟨by simpa using hv, by simp⟩) h
  exact ⟨y, e, hy⟩
end Go.Proofs.Ytkdnhhhgggmapaa.Utf
