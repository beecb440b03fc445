/- UtfSpec, UtfRefLay, UtfWords, UtfRunes, UtfInts, UtfValid, UtfFrom, UtfModel. -/
import Derived.Lib.Hide
import Derived.Test.YtffegkjlgeblbaaGreatDoorChecked
import Derived.WalkKit
import Derived.WalkSpells
import Derived.OwnWalk
import Derived.Test.YtffegkjlgeblbaaGreatDoorStabAll
import Derived.Laws.BytesArg
import Derived.LoopN
import Derived.Laws.CopyOwn
import Derived.Laws.MakeOwn
import Derived.Deep.AppendLies
import Derived.Deep.QuietTactic
import Derived.BigQuiet
section
/- Texts: which bytes are a number's, which bytes are a text, and what its numbers are. Plain lists; nothing of any program. -/
namespace Go.Proofs.YtffegkjlgeblbaaGreatDoor.Utf

def okR (v : Int) : Prop := 0 ≤ v ∧ v ≤ 1114111 ∧ ¬ (55296 ≤ v ∧ v ≤ 57343)
instance (v : Int) : Decidable (okR v) := inferInstanceAs (Decidable (_ ∧ _ ∧ ¬ _))
def enc (v : Int) : List Int :=
  if v < 128 then [v] else if v < 2048 then [192 + v / 64, 128 + v % 64] else if v < 65536 then [224 + v / 4096, 128 + v / 64 % 64, 128 + v % 64]
  else [240 + v / 262144, 128 + v / 4096 % 64, 128 + v / 64 % 64, 128 + v % 64]
theorem enc1 {v : Int} (h : v < 128) : enc v = [v] := if_pos h
theorem enc2 {v : Int} (h1 : 128 ≤ v) (h2 : v < 2048) : enc v = [192 + v / 64, 128 + v % 64] := (if_neg (by omega)).trans (if_pos h2)
theorem enc3 {v : Int} (h1 : 2048 ≤ v) (h2 : v < 65536) : enc v = [224 + v / 4096, 128 + v / 64 % 64, 128 + v % 64] := (if_neg (by omega)).trans ((if_neg (by omega)).trans (if_pos h2))
theorem enc4 {v : Int} (h1 : 65536 ≤ v) : enc v = [240 + v / 262144, 128 + v / 4096 % 64, 128 + v / 64 % 64, 128 + v % 64] := (if_neg (by omega)).trans ((if_neg (by omega)).trans (if_neg (by omega)))
theorem enc_ways (v : Int) : (v < 128 ∧ enc v = [v]) ∨ (128 ≤ v ∧ v < 2048 ∧ enc v = [192 + v / 64, 128 + v % 64]) ∨ (2048 ≤ v ∧ v < 65536 ∧ enc v = [224 + v / 4096, 128 + v / 64 % 64, 128 + v % 64]) ∨ (65536 ≤ v ∧ enc v = [240 + v / 262144, 128 + v / 4096 % 64, 128 + v / 64 % 64, 128 + v % 64]) := by
  by_cases h1 : v < 128
  · exact .inl ⟨h1, enc1 h1⟩
  · by_cases h2 : v < 2048
    · exact .inr (.inl ⟨by omega, h2, enc2 (by omega) h2⟩)
    · by_cases h3 : v < 65536
      · exact .inr (.inr (.inl ⟨by omega, h3, enc3 (by omega) h3⟩))
      · exact .inr (.inr (.inr ⟨by omega, enc4 (by omega)⟩))
theorem enc_len (v : Int) : 1 ≤ (enc v).length ∧ (enc v).length ≤ 4 := by
  rcases enc_ways v with ⟨_, e⟩ | ⟨_, _, e⟩ | ⟨_, _, e⟩ | ⟨_, e⟩ <;> (rw [e]; simp)
theorem enc_ne (v : Int) : enc v ≠ [] := fun h => by have := (enc_len v).1; rw [h] at this; simp at this
theorem enc_apart {v w : Int} {x y : List Int} (hv : okR v) (hw : okR w) (h : enc v ++ x = enc w ++ y) : v = w ∧ x = y := by
  obtain ⟨v0, v1, _⟩ := hv
  obtain ⟨w0, w1, _⟩ := hw
  rcases enc_ways v with ⟨_, e⟩ | ⟨_, _, e⟩ | ⟨_, _, e⟩ | ⟨_, e⟩ <;> rcases enc_ways w with ⟨_, f⟩ | ⟨_, _, f⟩ | ⟨_, _, f⟩ | ⟨_, f⟩ <;>
    (rw [e, f] at h; simp at h; first | (refine ⟨by omega, ?_⟩; first | exact h.2 | exact h.2.2 | exact h.2.2.2 | exact h.2.2.2.2) | omega)
def Txt (b l : List Int) : Prop := (∀ v ∈ l, okR v) ∧ b = l.flatMap enc
theorem Txt.tail {v : Int} {b l : List Int} (h : Txt b (v :: l)) : okR v ∧ ∃ r, b = enc v ++ r ∧ Txt r l := ⟨h.1 v (by simp), l.flatMap enc, h.2, fun x hx => h.1 x (by simp [hx]), rfl⟩
theorem Txt.rest : ∀ {x a b z : List Int}, Txt a x → Txt (a ++ b) z → ∃ y, Txt b y ∧ z = x ++ y
  | [], a, b, z, h, k => by
    obtain rfl : a = [] := by have := h.2; simpa using this
    exact ⟨z, by simpa using k, rfl⟩
  | v :: x, a, b, z, h, k => by
    obtain ⟨hv, r, rfl, hr⟩ := h.tail
    cases z with
    | nil =>
      have := k.2
      simp at this
      exact absurd this.1 (enc_ne v)
    | cons w z =>
      obtain ⟨hw, s, hs, hz⟩ := k.tail
      rw [List.append_assoc] at hs
      obtain ⟨rfl, rfl⟩ := enc_apart hv hw hs
      obtain ⟨y, hy, rfl⟩ := Txt.rest hr hz
      exact ⟨y, hy, rfl⟩
def cont (x : Int) : Bool := decide (128 ≤ x ∧ x < 192)
def dec : List Int → Option (Int × Nat)
  | [] => none
  | a :: r =>
    if a < 128 then some (a, 1)
    else if 192 ≤ a ∧ a < 224 then
      match r with
      | b :: _ => if cont b = true ∧ 128 ≤ (a - 192) * 64 + (b - 128) then some ((a - 192) * 64 + (b - 128), 2) else none
      | _ => none
    else if 224 ≤ a ∧ a < 240 then
      match r with
      | b :: c :: _ => if cont b = true ∧ cont c = true ∧ 2048 ≤ (a - 224) * 4096 + (b - 128) * 64 + (c - 128) ∧ okR ((a - 224) * 4096 + (b - 128) * 64 + (c - 128)) then some ((a - 224) * 4096 + (b - 128) * 64 + (c - 128), 3) else none
      | _ => none
    else if 240 ≤ a ∧ a < 248 then
      match r with
      | b :: c :: d :: _ => if cont b = true ∧ cont c = true ∧ cont d = true ∧ 65536 ≤ (a - 240) * 262144 + (b - 128) * 4096 + (c - 128) * 64 + (d - 128) ∧ okR ((a - 240) * 262144 + (b - 128) * 4096 + (c - 128) * 64 + (d - 128)) then some ((a - 240) * 262144 + (b - 128) * 4096 + (c - 128) * 64 + (d - 128), 4) else none
      | _ => none
    else none
theorem cont_iff {x : Int} : cont x = true ↔ 128 ≤ x ∧ x < 192 := by simp [cont]
theorem dec_enc {v : Int} (hv : okR v) (r : List Int) : dec (enc v ++ r) = some (v, (enc v).length) := by
  have hv' := hv
  obtain ⟨v0, v1, v2⟩ := hv
  rcases enc_ways v with ⟨h, e⟩ | ⟨h, h2, e⟩ | ⟨h, h2, e⟩ | ⟨h, e⟩ <;> rw [e]
  · simp [dec, h]
  · show (if 192 + v / 64 < 128 then _ else _) = _
    rw [if_neg (by omega), if_pos (by omega)]
    show (if _ then _ else _) = _
    have ev : (192 + v / 64 - 192) * 64 + (128 + v % 64 - 128) = v := by omega
    rw [if_pos ⟨cont_iff.2 (by omega), by omega⟩, ev]
    rfl
  · show (if 224 + v / 4096 < 128 then _ else _) = _
    rw [if_neg (by omega), if_neg (by omega), if_pos (by omega)]
    show (if _ then _ else _) = _
    have ev : (224 + v / 4096 - 224) * 4096 + (128 + v / 64 % 64 - 128) * 64 + (128 + v % 64 - 128) = v := by omega
    rw [ev, if_pos ⟨cont_iff.2 (by omega), cont_iff.2 (by omega), by omega, hv'⟩]
    rfl
  · show (if 240 + v / 262144 < 128 then _ else _) = _
    rw [if_neg (by omega), if_neg (by omega), if_neg (by omega), if_pos (by omega)]
    show (if _ then _ else _) = _
    have ev : (240 + v / 262144 - 240) * 262144 + (128 + v / 4096 % 64 - 128) * 4096 + (128 + v / 64 % 64 - 128) * 64 + (128 + v % 64 - 128) = v := by omega
    rw [ev, if_pos ⟨cont_iff.2 (by omega), cont_iff.2 (by omega), cont_iff.2 (by omega), by omega, hv'⟩]
    rfl
theorem dec_some {b : List Int} {v : Int} {n : Nat} (hb : ∀ x ∈ b, 0 ≤ x ∧ x < 256) (h : dec b = some (v, n)) : okR v ∧ n = (enc v).length ∧ b = enc v ++ b.drop n := by
  cases b with
  | nil => cases h
  | cons a r =>
    have ha := hb a (by simp)
    unfold dec at h
    dsimp only at h
    by_cases h1 : a < 128
    · rw [if_pos h1] at h
      obtain ⟨rfl, rfl⟩ : a = v ∧ 1 = n := by simpa using h
      rw [enc1 h1]
      exact ⟨⟨by omega, by omega, by omega⟩, rfl, rfl⟩
    · rw [if_neg h1] at h
      by_cases h2 : 192 ≤ a ∧ a < 224
      · rw [if_pos h2] at h
        cases r with
        | nil => cases h
        | cons b r =>
          simp only at h
          split at h
          · rename_i hc
            obtain ⟨c1, c2⟩ := hc
            rw [cont_iff] at c1
            obtain ⟨rfl, rfl⟩ : (a - 192) * 64 + (b - 128) = v ∧ 2 = n := by simpa using h
            rw [enc2 (by omega) (by omega)]
            refine ⟨⟨by omega, by omega, by omega⟩, rfl, ?_⟩
            show _ = [_, _] ++ r
            simp only [List.cons_append, List.nil_append, List.cons.injEq, and_true]
            omega
          · cases h
      · rw [if_neg h2] at h
        by_cases h3 : 224 ≤ a ∧ a < 240
        · rw [if_pos h3] at h
          match r, h with
          | [], h => cases h
          | [_], h => cases h
          | b :: c :: r, h =>
            simp only at h
            split at h
            · rename_i hc
              obtain ⟨c1, c2, c3, c4⟩ := hc
              rw [cont_iff] at c1 c2
              obtain ⟨rfl, rfl⟩ : (a - 224) * 4096 + (b - 128) * 64 + (c - 128) = v ∧ 3 = n := by simpa using h
              rw [enc3 (by omega) (by omega)]
              refine ⟨c4, rfl, ?_⟩
              show _ = [_, _, _] ++ r
              simp only [List.cons_append, List.nil_append, List.cons.injEq, and_true]
              omega
            · cases h
        · rw [if_neg h3] at h
          by_cases h4 : 240 ≤ a ∧ a < 248
          · rw [if_pos h4] at h
            match r, h with
            | [], h => cases h
            | [_], h => cases h
            | [_, _], h => cases h
            | b :: c :: d :: r, h =>
              simp only at h
              split at h
              · rename_i hc
                obtain ⟨c1, c2, c3, c4, c5⟩ := hc
                rw [cont_iff] at c1 c2 c3
                obtain ⟨rfl, rfl⟩ : (a - 240) * 262144 + (b - 128) * 4096 + (c - 128) * 64 + (d - 128) = v ∧ 4 = n := by simpa using h
                rw [enc4 (by omega)]
                refine ⟨c5, rfl, ?_⟩
                show _ = [_, _, _, _] ++ r
                simp only [List.cons_append, List.nil_append, List.cons.injEq, and_true]
                omega
              · cases h
          · rw [if_neg h4] at h
            cases h
theorem dec_none {b l : List Int} (h : dec b = none) (hb : b ≠ []) : ¬ Txt b l := by
  intro k
  cases l with
  | nil => exact hb (by have := k.2; simpa using this)
  | cons v l =>
    obtain ⟨hv, r, rfl, _⟩ := k.tail
    rw [dec_enc hv] at h
    cases h
end Go.Proofs.YtffegkjlgeblbaaGreatDoor.Utf
end

section
/- The document's bytes of a number, walked. -/
namespace Go.Proofs.YtffegkjlgeblbaaGreatDoor.Utf
open Go.RowKit
set_option maxRecDepth 100000
set_option maxHeartbeats 400000

def vb (l : List Int) : List Value := l.map (Value.int .u8)
end Go.Proofs.YtffegkjlgeblbaaGreatDoor.Utf
end

section
/- Words for bytes in memory, for texts; the document's first number, its parts. -/
namespace Go.Proofs.YtffegkjlgeblbaaGreatDoor.Utf
open Go.RowKit
set_option maxRecDepth 100000
set_option maxHeartbeats 400000

def Byt (w : World) (B : Nat) (ad : Addr) (l : List Int) : Prop := ad.block < B ∧ ad.spot = none ∧ ∀ j, j < l.length → w.cell? ⟨ad.block, ad.off + j, none⟩ = some (.int .u8 (l.getD j 0))
theorem Byt.keep {w w' : World} {B : Nat} {ad : Addr} {l : List Int} (h : Byt w B ad l) (hb : Below B w w') : Byt w' B ad l :=
  ⟨h.1, h.2.1, fun j hj => by rw [hb.cell (p := ⟨ad.block, ad.off + j, none⟩) h.1]; exact h.2.2 j hj⟩
theorem Byt.mono {w : World} {B B' : Nat} {ad : Addr} {l : List Int} (h : Byt w B ad l) (hB : B ≤ B') : Byt w B' ad l := ⟨by have := h.1; omega, h.2⟩
theorem Byt.take {w : World} {B : Nat} {ad : Addr} {l : List Int} (h : Byt w B ad l) (n : Nat) : Byt w B ad (l.take n) := ⟨h.1, h.2.1, fun j hj => by
  rw [List.length_take] at hj
  rw [h.2.2 j (by omega), show (l.take n).getD j 0 = l.getD j 0 from by rw [List.getD_eq_getElem?_getD, List.getD_eq_getElem?_getD, List.getElem?_take, if_pos (by omega)]]⟩
theorem run_txt (w : World) (g off n c : Nat) (l : List Int) (hl : l.length = n) (h : ∀ i, i < n → w.cell? ⟨g, off + i, none⟩ = some (.int .u8 (l.getD i 0))) : (convert 22 9 (.slice (some ⟨g, off, none⟩) n c)).run Tryz.prog w = .ok (.string (strOfNums l)) w :=
  run_convert_bytes_arg w 22 5 Tryz.underlying22 Tryz.underlying5 g off n c l hl h 9 Tryz.underlying9
theorem str_inj {a b : List Int} (ha : ∀ x ∈ a, 0 ≤ x ∧ x < 256) (hb : ∀ x ∈ b, 0 ≤ x ∧ x < 256) (h : strOfNums a = strOfNums b) : a = b := by
  have e := congrArg (fun s => s.data.toList) h
  simp only [strOfNums_data] at e
  have key : ∀ (a b : List Int), (∀ x ∈ a, 0 ≤ x ∧ x < 256) → (∀ x ∈ b, 0 ≤ x ∧ x < 256) → (a.map fun n => UInt8.ofNat n.toNat) = (b.map fun n => UInt8.ofNat n.toNat) → a = b := by
    intro a
    induction a with
    | nil => intro b _ _ h; cases b with
      | nil => rfl
      | cons y b => simp at h
    | cons x a ih => intro b ha hb h; cases b with
      | nil => simp at h
      | cons y b =>
        simp only [List.map_cons, List.cons.injEq] at h
        have hx := ha x (by simp)
        have hy := hb y (by simp)
        have h1 := congrArg UInt8.toNat h.1
        simp only [UInt8.toNat_ofNat'] at h1
        have : x = y := by omega
        rw [this, ih b (fun z hz => ha z (by simp [hz])) (fun z hz => hb z (by simp [hz])) h.2]
  exact key a b ha hb e
theorem str_toList {a b : ByteArray} (h : a.toList = b.toList) : a = b := by
  rw [ByteArray.toList_eq, ByteArray.toList_eq] at h
  obtain ⟨a⟩ := a
  obtain ⟨b⟩ := b
  exact congrArg ByteArray.mk (Array.toList_inj.1 h)
end Go.Proofs.YtffegkjlgeblbaaGreatDoor.Utf
end

section
/- The document's numbers of a text, walked. -/
namespace Go.Proofs.YtffegkjlgeblbaaGreatDoor.Utf
open Go.RowKit
set_option maxRecDepth 100000
set_option maxHeartbeats 400000

theorem Byt.drop {w : World} {B g off : Nat} {l : List Int} (h : Byt w B ⟨g, off, none⟩ l) (k : Nat) : Byt w B ⟨g, off + k, none⟩ (l.drop k) := ⟨h.1, rfl, fun j hj => by
  rw [List.length_drop] at hj
  have := h.2.2 (k + j) (by omega)
  rw [show off + k + j = off + (k + j) from by omega]
  show w.cell? ⟨g, off + (k + j), none⟩ = _
  rw [show (l.drop k).getD j 0 = l.getD (k + j) 0 from by rw [List.getD_eq_getElem?_getD, List.getD_eq_getElem?_getD, List.getElem?_drop]]
  exact this⟩
theorem no_txt {l done : List Int} {k : Nat} (hd : ∀ v ∈ done, okR v) (ht : l.take k = done.flatMap enc) (h0 : l.drop k ≠ []) (hn : dec (l.drop k) = none) : ∀ x, ¬ Txt l x := by
  intro x hx
  obtain ⟨y, hy, _⟩ := Txt.rest (x := done) (a := l.take k) (b := l.drop k) ⟨hd, ht⟩ (by rw [List.take_append_drop]; exact hx)
  exact dec_none hn h0 hy
end Go.Proofs.YtffegkjlgeblbaaGreatDoor.Utf
end

section
/- The document's 'are numbers the same', walked; what Runes and Valid tell, in one word; a text of no bytes. -/
namespace Go.Proofs.YtffegkjlgeblbaaGreatDoor.Utf
open Go.RowKit
set_option maxRecDepth 100000
set_option maxHeartbeats 400000

theorem ret_bool {a b : Bool} (h : a = b) : Ending.returned (.bool a) = .returned (.bool b) := by rw [h]
end Go.Proofs.YtffegkjlgeblbaaGreatDoor.Utf
end

section
/- The document's Runes and Valid of any bytes: nil, or a row somewhere. -/
namespace Go.Proofs.YtffegkjlgeblbaaGreatDoor.Utf
open Go.RowKit
set_option maxRecDepth 100000
set_option maxHeartbeats 400000

def Sl (w : World) (v : Value) (l : List Int) : Prop :=
  ∃ A c, v = .slice A l.length c ∧ l.length ≤ c ∧ c ≤ 9223372036854775807 ∧ (l ≠ [] → ∃ g off, A = some ⟨g, off, none⟩ ∧ Byt w w.heap.size ⟨g, off, none⟩ l)
theorem Sl.keep {w w' : World} {v : Value} {l : List Int} (h : Sl w v l) (hb : Below w.heap.size w w') : Sl w' v l := by
  obtain ⟨A, c, h1, h2, h3, h4⟩ := h
  refine ⟨A, c, h1, h2, h3, fun h0 => ?_⟩
  obtain ⟨g, off, e, hB⟩ := h4 h0
  exact ⟨g, off, e, (hB.keep hb).mono hb.size⟩
theorem Sl.nil (w : World) : Sl w (.slice none 0 0) [] := ⟨none, 0, rfl, Nat.le_refl _, by omega, fun h => absurd rfl h⟩
def isTxt (l : List Int) : Prop := ∃ x, Txt l x
open Classical in
noncomputable def isT (l : List Int) : Bool := decide (isTxt l)
open Classical in
theorem isT_true {l x : List Int} (h : Txt l x) : isT l = true := by unfold isT; exact decide_eq_true ⟨x, h⟩
open Classical in
theorem isT_false {l : List Int} (h : ∀ x, ¬ Txt l x) : isT l = false := by unfold isT; exact decide_eq_false (fun ⟨x, hx⟩ => h x hx)
end Go.Proofs.YtffegkjlgeblbaaGreatDoor.Utf
end

section
/- The document's FromRunes, walked. -/
namespace Go.Proofs.YtffegkjlgeblbaaGreatDoor.Utf
open Go.RowKit
set_option maxRecDepth 100000
set_option maxHeartbeats 400000

theorem byte_info : (Tryz.prog.info? 5).map (fun i => (i.zero, i.size, i.bytes)) = some (some (.int .u8 0), 1, 1) := by kernel_rfl
theorem Byt.cells {w : World} {B g off : Nat} {l : List Int} (h : Byt w B ⟨g, off, none⟩ l) : ∀ j u, (vb l)[j]? = some u → w.cell? ((⟨g, off, none⟩ : Addr).add j) = some u := by
  intro j u hu
  unfold vb at hu
  rw [List.getElem?_map] at hu
  by_cases hj : j < l.length
  · have e := h.2.2 j hj
    rw [List.getElem?_eq_getElem hj] at hu
    simp at hu
    subst hu
    have e2 : l.getD j 0 = l[j] := by simp [hj]
    rw [e2] at e
    cases j with
    | zero => simpa [Addr.add] using e
    | succ j => simpa [Addr.add] using e
  · rw [List.getElem?_eq_none (by omega)] at hu
    simp at hu
end Go.Proofs.YtffegkjlgeblbaaGreatDoor.Utf
end

section
/- What a range over a string tells of its bytes at a place: the number that they begin with, or 65533 and one byte. -/
namespace Go.Proofs.YtffegkjlgeblbaaGreatDoor.Utf
open Go
set_option maxRecDepth 100000

def rest (s : ByteArray) (i : Nat) : List Nat := (s.data.toList.drop i).map UInt8.toNat
def bl (s : ByteArray) : List Int := s.data.toList.map fun x => (x.toNat : Int)
theorem bl_len (s : ByteArray) : (bl s).length = s.size := by
  unfold bl
  rw [List.length_map, Array.length_toList]
  rfl
theorem bl_byte (s : ByteArray) : ∀ x ∈ bl s, 0 ≤ x ∧ x < 256 := by
  intro x hx
  obtain ⟨y, _, rfl⟩ := List.mem_map.1 hx
  have := y.toNat_lt
  omega
theorem bl_drop (s : ByteArray) (i : Nat) : (bl s).drop i = (rest s i).map fun n : Nat => (n : Int) := by
  unfold bl rest
  rw [← List.map_drop, List.map_map]
  rfl
theorem rest_len (s : ByteArray) (i : Nat) : (rest s i).length = s.size - i := by
  unfold rest
  rw [List.length_map, List.length_drop, Array.length_toList]
  rfl
theorem rest_byte (s : ByteArray) (i : Nat) : ∀ x ∈ rest s i, x < 256 := by
  intro x hx
  obtain ⟨y, _, rfl⟩ := List.mem_map.1 hx
  exact y.toNat_lt
theorem rest_at (s : ByteArray) (i k : Nat) : (s.get! (i + k)).toNat = (rest s i).getD k 0 := by
  obtain ⟨d⟩ := s
  show (d[i + k]!).toNat = ((d.toList.drop i).map UInt8.toNat).getD k 0
  rw [List.getD_eq_getElem?_getD, List.getElem?_map, List.getElem?_drop, Array.getElem?_toList]
  by_cases h : i + k < d.size
  · rw [getElem!_pos d (i + k) h, Array.getElem?_eq_getElem h]
    rfl
  · rw [getElem!_neg d (i + k) h, Array.getElem?_eq_none (by omega)]
    rfl
theorem valid_iff (c : Nat) : Utf8.valid (c : Int) = true ↔ okR (c : Int) := by
  unfold Utf8.valid okR
  simp only [Bool.or_eq_true, Bool.and_eq_true, decide_eq_true_eq]
  omega
def mp (r : List Nat) : List Int := r.map fun n : Nat => (n : Int)
theorem stands (s : ByteArray) (i : Nat) : ∀ k, decide (i + k < s.size) = decide (k < (rest s i).length) := fun k => by
  rw [rest_len]
  by_cases h : i + k < s.size
  · rw [decide_eq_true h, decide_eq_true (by omega)]
  · rw [decide_eq_false h, decide_eq_false (by omega)]
theorem told_some (s : ByteArray) (i : Nat) (v : Int) (t : List Int) (hv : okR v) (h : mp (rest s i) = enc v ++ t) : Utf8.decode s i = (v.toNat, (enc v).length) := by
  unfold Utf8.decode
  simp only [rest_at, stands]
  revert h
  generalize rest s i = r
  intro h
  have hok := hv
  obtain ⟨v0, v1, v2⟩ := hv
  rcases enc_ways v with ⟨g, e⟩ | ⟨g, g2, e⟩ | ⟨g, g2, e⟩ | ⟨g, e⟩ <;> rw [e] at h ⊢
  · match r, h with
    | [], h => simp [mp] at h
    | a :: r, h =>
      have h1 : (a : Int) = v := by simpa [mp] using (List.cons.inj h).1
      refine (if_pos (show a < 128 by omega)).trans ?_
      show (a, 1) = (v.toNat, 1)
      rw [← h1]; rfl
  · match r, h with
    | [], h => simp [mp] at h
    | [_], h => simp [mp] at h
    | a :: b :: r, h =>
      obtain ⟨h1, h2, _⟩ : (a : Int) = 192 + v / 64 ∧ (b : Int) = 128 + v % 64 ∧ mp r = t := by simpa [mp] using h
      have e1 : (a / 32 == 6 && (decide (1 < (a :: b :: r).length) && b / 64 == 2)) = true := by
        simp only [Bool.and_eq_true, beq_iff_eq, decide_eq_true_eq, List.length_cons]; omega
      refine (if_neg (show ¬ a < 128 by omega)).trans ((if_pos e1).trans ?_)
      show (if a % 32 * 64 + b % 64 ≥ 128 then (a % 32 * 64 + b % 64, 2) else (65533, 1)) = (v.toNat, 2)
      rw [if_pos (by omega), show a % 32 * 64 + b % 64 = v.toNat from by omega]
  · match r, h with
    | [], h => simp [mp] at h
    | [_], h => simp [mp] at h
    | [_, _], h => simp [mp] at h
    | a :: b :: c :: r, h =>
      obtain ⟨h1, h2, h3, _⟩ : (a : Int) = 224 + v / 4096 ∧ (b : Int) = 128 + v / 64 % 64 ∧ (c : Int) = 128 + v % 64 ∧ mp r = t := by simpa [mp] using h
      have e1 : ¬ (a / 32 == 6 && (decide (1 < (a :: b :: c :: r).length) && b / 64 == 2)) = true := by
        simp only [Bool.and_eq_true, beq_iff_eq, decide_eq_true_eq, List.length_cons]; omega
      have e2 : (a / 16 == 14 && (decide (1 < (a :: b :: c :: r).length) && b / 64 == 2) && (decide (2 < (a :: b :: c :: r).length) && c / 64 == 2)) = true := by
        simp only [Bool.and_eq_true, beq_iff_eq, decide_eq_true_eq, List.length_cons]; omega
      have ev : a % 16 * 4096 + b % 64 * 64 + c % 64 = v.toNat := by omega
      refine (if_neg (show ¬ a < 128 by omega)).trans ((if_neg e1).trans ((if_pos e2).trans ?_))
      show (if (decide (a % 16 * 4096 + b % 64 * 64 + c % 64 ≥ 2048) && Utf8.valid ((a % 16 * 4096 + b % 64 * 64 + c % 64 : Nat) : Int)) = true then (a % 16 * 4096 + b % 64 * 64 + c % 64, 3) else (65533, 1)) = (v.toNat, 3)
      rw [ev, if_pos]
      simp only [Bool.and_eq_true, decide_eq_true_eq]
      exact ⟨by omega, (valid_iff _).2 (by rw [Int.toNat_of_nonneg v0]; exact hok)⟩
  · match r, h with
    | [], h => simp [mp] at h
    | [_], h => simp [mp] at h
    | [_, _], h => simp [mp] at h
    | [_, _, _], h => simp [mp] at h
    | a :: b :: c :: d :: r, h =>
      obtain ⟨h1, h2, h3, h4, _⟩ : (a : Int) = 240 + v / 262144 ∧ (b : Int) = 128 + v / 4096 % 64 ∧ (c : Int) = 128 + v / 64 % 64 ∧ (d : Int) = 128 + v % 64 ∧ mp r = t := by simpa [mp] using h
      have e1 : ¬ (a / 32 == 6 && (decide (1 < (a :: b :: c :: d :: r).length) && b / 64 == 2)) = true := by
        simp only [Bool.and_eq_true, beq_iff_eq, decide_eq_true_eq, List.length_cons]; omega
      have e2 : ¬ (a / 16 == 14 && (decide (1 < (a :: b :: c :: d :: r).length) && b / 64 == 2) && (decide (2 < (a :: b :: c :: d :: r).length) && c / 64 == 2)) = true := by
        simp only [Bool.and_eq_true, beq_iff_eq, decide_eq_true_eq, List.length_cons]; omega
      have e3 : (a / 8 == 30 && (decide (1 < (a :: b :: c :: d :: r).length) && b / 64 == 2) && (decide (2 < (a :: b :: c :: d :: r).length) && c / 64 == 2) && (decide (3 < (a :: b :: c :: d :: r).length) && d / 64 == 2)) = true := by
        simp only [Bool.and_eq_true, beq_iff_eq, decide_eq_true_eq, List.length_cons]; omega
      have ev : a % 8 * 262144 + b % 64 * 4096 + c % 64 * 64 + d % 64 = v.toNat := by omega
      refine (if_neg (show ¬ a < 128 by omega)).trans ((if_neg e1).trans ((if_neg e2).trans ((if_pos e3).trans ?_)))
      show (if (decide (a % 8 * 262144 + b % 64 * 4096 + c % 64 * 64 + d % 64 ≥ 65536) && Utf8.valid ((a % 8 * 262144 + b % 64 * 4096 + c % 64 * 64 + d % 64 : Nat) : Int)) = true then (a % 8 * 262144 + b % 64 * 4096 + c % 64 * 64 + d % 64, 4) else (65533, 1)) = (v.toNat, 4)
      rw [ev, if_pos]
      simp only [Bool.and_eq_true, decide_eq_true_eq]
      exact ⟨by omega, (valid_iff _).2 (by rw [Int.toNat_of_nonneg v0]; exact hok)⟩
theorem told_none (s : ByteArray) (i : Nat) (h0 : rest s i ≠ []) (h : ∀ v t, okR v → mp (rest s i) ≠ enc v ++ t) : Utf8.decode s i = (65533, 1) := by
  unfold Utf8.decode
  simp only [rest_at, stands]
  have hr := rest_byte s i
  revert hr h0 h
  generalize rest s i = r
  intro h0 h hr
  cases r with
  | nil => exact absurd rfl h0
  | cons a r =>
    have ha := hr a (by simp)
    by_cases h1 : a < 128
    · exact absurd (show mp (a :: r) = enc (a : Int) ++ mp r by rw [enc1 (by omega)]; rfl) (h a _ ⟨by omega, by omega, by omega⟩)
    · rw [if_neg (show ¬ (a :: r).getD 0 0 < 128 from h1)]
      split
      · rename_i hc
        simp only [Bool.and_eq_true, beq_iff_eq, decide_eq_true_eq] at hc
        match r, hc, h, hr with
        | [], hc, _, _ => simp at hc
        | b :: r, hc, h, hr =>
          have hc1 : a / 32 = 6 := hc.1
          have hc2 : b / 64 = 2 := hc.2.2
          split
          · rename_i hg
            have hg : a % 32 * 64 + b % 64 ≥ 128 := hg
            refine absurd (show mp (a :: b :: r) = enc ((a % 32 * 64 + b % 64 : Nat) : Int) ++ mp r from ?_) (h _ _ ⟨by omega, by omega, by omega⟩)
            rw [enc2 (by omega) (by omega)]
            show (a : Int) :: (b : Int) :: mp r = _
            simp only [List.cons_append, List.nil_append, List.cons.injEq, and_true]
            omega
          · rfl
      · split
        · rename_i hc
          simp only [Bool.and_eq_true, beq_iff_eq, decide_eq_true_eq] at hc
          match r, hc, h, hr with
          | [], hc, _, _ => simp at hc
          | [_], hc, _, _ => simp at hc
          | b :: c :: r, hc, h, hr =>
            have hc1 : a / 16 = 14 := hc.1.1
            have hc2 : b / 64 = 2 := hc.1.2.2
            have hc3 : c / 64 = 2 := hc.2.2
            split
            · rename_i hg
              simp only [Bool.and_eq_true, decide_eq_true_eq] at hg
              have hg1 : a % 16 * 4096 + b % 64 * 64 + c % 64 ≥ 2048 := hg.1
              have hg2 : okR ((a % 16 * 4096 + b % 64 * 64 + c % 64 : Nat) : Int) := (valid_iff _).1 hg.2
              refine absurd (show mp (a :: b :: c :: r) = enc ((a % 16 * 4096 + b % 64 * 64 + c % 64 : Nat) : Int) ++ mp r from ?_) (h _ _ hg2)
              rw [enc3 (by omega) (by omega)]
              show (a : Int) :: (b : Int) :: (c : Int) :: mp r = _
              simp only [List.cons_append, List.nil_append, List.cons.injEq, and_true]
              omega
            · rfl
        · split
          · rename_i hc
            simp only [Bool.and_eq_true, beq_iff_eq, decide_eq_true_eq] at hc
            match r, hc, h, hr with
            | [], hc, _, _ => simp at hc
            | [_], hc, _, _ => simp at hc
            | [_, _], hc, _, _ => simp at hc
            | b :: c :: d :: r, hc, h, hr =>
              have hc1 : a / 8 = 30 := hc.1.1.1
              have hc2 : b / 64 = 2 := hc.1.1.2.2
              have hc3 : c / 64 = 2 := hc.1.2.2
              have hc4 : d / 64 = 2 := hc.2.2
              split
              · rename_i hg
                simp only [Bool.and_eq_true, decide_eq_true_eq] at hg
                have hg1 : a % 8 * 262144 + b % 64 * 4096 + c % 64 * 64 + d % 64 ≥ 65536 := hg.1
                have hg2 : okR ((a % 8 * 262144 + b % 64 * 4096 + c % 64 * 64 + d % 64 : Nat) : Int) := (valid_iff _).1 hg.2
                refine absurd (show mp (a :: b :: c :: d :: r) = enc ((a % 8 * 262144 + b % 64 * 4096 + c % 64 * 64 + d % 64 : Nat) : Int) ++ mp r from ?_) (h _ _ hg2)
                rw [enc4 (by omega)]
                show (a : Int) :: (b : Int) :: (c : Int) :: (d : Int) :: mp r = _
                simp only [List.cons_append, List.nil_append, List.cons.injEq, and_true]
                omega
              · rfl
          · rfl
theorem decode_some (s : ByteArray) (i : Nat) (v : Int) (t : List Int) (hv : okR v) (h : (bl s).drop i = enc v ++ t) : Utf8.decode s i = (v.toNat, (enc v).length) := by
  exact told_some s i v t hv (by rw [← h, bl_drop]; rfl)
theorem decode_none (s : ByteArray) (i : Nat) (hi : i < s.size) (h : ∀ v t, okR v → (bl s).drop i ≠ enc v ++ t) : Utf8.decode s i = (65533, 1) := by
  refine told_none s i (fun e => ?_) (fun v t hv e => h v t hv (by rw [bl_drop]; exact e))
  have := rest_len s i
  rw [e] at this
  simp at this
  omega
end Go.Proofs.YtffegkjlgeblbaaGreatDoor.Utf
end
