/- UtfSpec, UtfRefLay, UtfWords, UtfFirst, UtfRunes, UtfInts, UtfValid, UtfFrom. -/
import Derived.Lib.Hide
import Derived.Test.YtffegkjlgeblbaaGreatDoorChecked
import Derived.WalkKit
import Derived.WalkSpells
import Derived.OwnWalk
import Derived.Test.YtffegkjlgeblbaaGreatDoorStabAll
import Derived.Laws.BytesArg
import Derived.LoopN
import Derived.Laws.CopyOwn
import Derived.Laws.MakeOwn
import Derived.Deep.AppendLies
import Derived.Deep.QuietTactic
import Derived.BigQuiet
section
/- Texts: which bytes are a number's, which bytes are a text, and what its numbers are. Plain lists; nothing of any program. -/
namespace Go.Proofs.YtffegkjlgeblbaaGreatDoor.Utf

/-- May a number be? Its bytes. -/
def okR (v : Int) : Prop := 0 ≤ v ∧ v ≤ 1114111 ∧ ¬ (55296 ≤ v ∧ v ≤ 57343)
instance (v : Int) : Decidable (okR v) := inferInstanceAs (Decidable (_ ∧ _ ∧ ¬ _))
def enc (v : Int) : List Int :=
  if v < 128 then [v] else if v < 2048 then [192 + v / 64, 128 + v % 64] else if v < 65536 then [224 + v / 4096, 128 + v / 64 % 64, 128 + v % 64]
  else [240 + v / 262144, 128 + v / 4096 % 64, 128 + v / 64 % 64, 128 + v % 64]
theorem enc1 {v : Int} (h : v < 128) : enc v = [v] := if_pos h
theorem enc2 {v : Int} (h1 : 128 ≤ v) (h2 : v < 2048) : enc v = [192 + v / 64, 128 + v % 64] := (if_neg (by omega)).trans (if_pos h2)
theorem enc3 {v : Int} (h1 : 2048 ≤ v) (h2 : v < 65536) : enc v = [224 + v / 4096, 128 + v / 64 % 64, 128 + v % 64] := (if_neg (by omega)).trans ((if_neg (by omega)).trans (if_pos h2))
theorem enc4 {v : Int} (h1 : 65536 ≤ v) : enc v = [240 + v / 262144, 128 + v / 4096 % 64, 128 + v / 64 % 64, 128 + v % 64] := (if_neg (by omega)).trans ((if_neg (by omega)).trans (if_neg (by omega)))
theorem enc_ways (v : Int) : (v < 128 ∧ enc v = [v]) ∨ (128 ≤ v ∧ v < 2048 ∧ enc v = [192 + v / 64, 128 + v % 64]) ∨ (2048 ≤ v ∧ v < 65536 ∧ enc v = [224 + v / 4096, 128 + v / 64 % 64, 128 + v % 64]) ∨ (65536 ≤ v ∧ enc v = [240 + v / 262144, 128 + v / 4096 % 64, 128 + v / 64 % 64, 128 + v % 64]) := by
  by_cases h1 : v < 128
  · exact .inl ⟨h1, enc1 h1⟩
  · by_cases h2 : v < 2048
    · exact .inr (.inl ⟨by omega, h2, enc2 (by omega) h2⟩)
    · by_cases h3 : v < 65536
      · exact .inr (.inr (.inl ⟨by omega, h3, enc3 (by omega) h3⟩))
      · exact .inr (.inr (.inr ⟨by omega, enc4 (by omega)⟩))
theorem enc_len (v : Int) : 1 ≤ (enc v).length ∧ (enc v).length ≤ 4 := by
  rcases enc_ways v with ⟨_, e⟩ | ⟨_, _, e⟩ | ⟨_, _, e⟩ | ⟨_, e⟩ <;> (rw [e]; simp)
theorem enc_ne (v : Int) : enc v ≠ [] := fun h => by have := (enc_len v).1; rw [h] at this; simp at this
/-- A number's bytes are never the beginning of another's. -/
theorem enc_apart {v w : Int} {x y : List Int} (hv : okR v) (hw : okR w) (h : enc v ++ x = enc w ++ y) : v = w ∧ x = y := by
  obtain ⟨v0, v1, _⟩ := hv
  obtain ⟨w0, w1, _⟩ := hw
  rcases enc_ways v with ⟨_, e⟩ | ⟨_, _, e⟩ | ⟨_, _, e⟩ | ⟨_, e⟩ <;> rcases enc_ways w with ⟨_, f⟩ | ⟨_, _, f⟩ | ⟨_, _, f⟩ | ⟨_, f⟩ <;>
    (rw [e, f] at h; simp at h; first | (refine ⟨by omega, ?_⟩; first | exact h.2 | exact h.2.2 | exact h.2.2.2 | exact h.2.2.2.2) | omega)
/-- A text, and its numbers. -/
def Txt (b l : List Int) : Prop := (∀ v ∈ l, okR v) ∧ b = l.flatMap enc
theorem Txt.nil : Txt [] [] := ⟨by simp, rfl⟩
theorem Txt.cons {v : Int} {b l : List Int} (hv : okR v) (h : Txt b l) : Txt (enc v ++ b) (v :: l) := ⟨by
  intro x hx
  rcases List.mem_cons.1 hx with rfl | hx
  · exact hv
  · exact h.1 x hx, by rw [h.2]; rfl⟩
theorem Txt.append {a b x y : List Int} (h : Txt a x) (k : Txt b y) : Txt (a ++ b) (x ++ y) := ⟨fun v hv => by
  rcases List.mem_append.1 hv with hv | hv
  · exact h.1 v hv
  · exact k.1 v hv, by rw [h.2, k.2, List.flatMap_append]⟩
theorem Txt.tail {v : Int} {b l : List Int} (h : Txt b (v :: l)) : okR v ∧ ∃ r, b = enc v ++ r ∧ Txt r l := ⟨h.1 v (by simp), l.flatMap enc, h.2, fun x hx => h.1 x (by simp [hx]), rfl⟩
theorem Txt.empty {l : List Int} (h : Txt [] l) : l = [] := by
  cases l with
  | nil => rfl
  | cons v l =>
    obtain ⟨_, r, hr, _⟩ := h.tail
    have := enc_ne v
    simp at hr
    exact absurd hr.1 this
/-- A text has one lot of numbers; what stands behind a text's beginning is a text. -/
theorem Txt.rest : ∀ {x a b z : List Int}, Txt a x → Txt (a ++ b) z → ∃ y, Txt b y ∧ z = x ++ y
  | [], a, b, z, h, k => by
    obtain rfl : a = [] := by have := h.2; simpa using this
    exact ⟨z, by simpa using k, rfl⟩
  | v :: x, a, b, z, h, k => by
    obtain ⟨hv, r, rfl, hr⟩ := h.tail
    cases z with
    | nil =>
      have := k.2
      simp at this
      exact absurd this.1 (enc_ne v)
    | cons w z =>
      obtain ⟨hw, s, hs, hz⟩ := k.tail
      rw [List.append_assoc] at hs
      obtain ⟨rfl, rfl⟩ := enc_apart hv hw hs
      obtain ⟨y, hy, rfl⟩ := Txt.rest hr hz
      exact ⟨y, hy, rfl⟩
theorem Txt.one {b x y : List Int} (h : Txt b x) (k : Txt b y) : x = y := by
  obtain ⟨z, hz, e⟩ := Txt.rest h (show Txt (b ++ []) y by rw [List.append_nil]; exact k)
  rw [hz.empty] at e
  simpa using e.symm
/-- The number that bytes begin with. -/
def cont (x : Int) : Bool := decide (128 ≤ x ∧ x < 192)
def dec : List Int → Option (Int × Nat)
  | [] => none
  | a :: r =>
    if a < 128 then some (a, 1)
    else if 192 ≤ a ∧ a < 224 then
      match r with
      | b :: _ => if cont b = true ∧ 128 ≤ (a - 192) * 64 + (b - 128) then some ((a - 192) * 64 + (b - 128), 2) else none
      | _ => none
    else if 224 ≤ a ∧ a < 240 then
      match r with
      | b :: c :: _ => if cont b = true ∧ cont c = true ∧ 2048 ≤ (a - 224) * 4096 + (b - 128) * 64 + (c - 128) ∧ okR ((a - 224) * 4096 + (b - 128) * 64 + (c - 128)) then some ((a - 224) * 4096 + (b - 128) * 64 + (c - 128), 3) else none
      | _ => none
    else if 240 ≤ a ∧ a < 248 then
      match r with
      | b :: c :: d :: _ => if cont b = true ∧ cont c = true ∧ cont d = true ∧ 65536 ≤ (a - 240) * 262144 + (b - 128) * 4096 + (c - 128) * 64 + (d - 128) ∧ okR ((a - 240) * 262144 + (b - 128) * 4096 + (c - 128) * 64 + (d - 128)) then some ((a - 240) * 262144 + (b - 128) * 4096 + (c - 128) * 64 + (d - 128), 4) else none
      | _ => none
    else none
theorem cont_iff {x : Int} : cont x = true ↔ 128 ≤ x ∧ x < 192 := by simp [cont]
theorem dec_enc {v : Int} (hv : okR v) (r : List Int) : dec (enc v ++ r) = some (v, (enc v).length) := by
  have hv' := hv
  obtain ⟨v0, v1, v2⟩ := hv
  rcases enc_ways v with ⟨h, e⟩ | ⟨h, h2, e⟩ | ⟨h, h2, e⟩ | ⟨h, e⟩ <;> rw [e]
  · simp [dec, h]
  · show (if 192 + v / 64 < 128 then _ else _) = _
    rw [if_neg (by omega), if_pos (by omega)]
    show (if _ then _ else _) = _
    have ev : (192 + v / 64 - 192) * 64 + (128 + v % 64 - 128) = v := by omega
    rw [if_pos ⟨cont_iff.2 (by omega), by omega⟩, ev]
    rfl
  · show (if 224 + v / 4096 < 128 then _ else _) = _
    rw [if_neg (by omega), if_neg (by omega), if_pos (by omega)]
    show (if _ then _ else _) = _
    have ev : (224 + v / 4096 - 224) * 4096 + (128 + v / 64 % 64 - 128) * 64 + (128 + v % 64 - 128) = v := by omega
    rw [ev, if_pos ⟨cont_iff.2 (by omega), cont_iff.2 (by omega), by omega, hv'⟩]
    rfl
  · show (if 240 + v / 262144 < 128 then _ else _) = _
    rw [if_neg (by omega), if_neg (by omega), if_neg (by omega), if_pos (by omega)]
    show (if _ then _ else _) = _
    have ev : (240 + v / 262144 - 240) * 262144 + (128 + v / 4096 % 64 - 128) * 4096 + (128 + v / 64 % 64 - 128) * 64 + (128 + v % 64 - 128) = v := by omega
    rw [ev, if_pos ⟨cont_iff.2 (by omega), cont_iff.2 (by omega), cont_iff.2 (by omega), by omega, hv'⟩]
    rfl
theorem dec_some {b : List Int} {v : Int} {n : Nat} (hb : ∀ x ∈ b, 0 ≤ x ∧ x < 256) (h : dec b = some (v, n)) : okR v ∧ n = (enc v).length ∧ b = enc v ++ b.drop n := by
  cases b with
  | nil => cases h
  | cons a r =>
    have ha := hb a (by simp)
    unfold dec at h
    dsimp only at h
    by_cases h1 : a < 128
    · rw [if_pos h1] at h
      obtain ⟨rfl, rfl⟩ : a = v ∧ 1 = n := by simpa using h
      rw [enc1 h1]
      exact ⟨⟨by omega, by omega, by omega⟩, rfl, rfl⟩
    · rw [if_neg h1] at h
      by_cases h2 : 192 ≤ a ∧ a < 224
      · rw [if_pos h2] at h
        cases r with
        | nil => cases h
        | cons b r =>
          simp only at h
          split at h
          · rename_i hc
            obtain ⟨c1, c2⟩ := hc
            rw [cont_iff] at c1
            obtain ⟨rfl, rfl⟩ : (a - 192) * 64 + (b - 128) = v ∧ 2 = n := by simpa using h
            rw [enc2 (by omega) (by omega)]
            refine ⟨⟨by omega, by omega, by omega⟩, rfl, ?_⟩
            show _ = [_, _] ++ r
            simp only [List.cons_append, List.nil_append, List.cons.injEq, and_true]
            omega
          · cases h
      · rw [if_neg h2] at h
        by_cases h3 : 224 ≤ a ∧ a < 240
        · rw [if_pos h3] at h
          match r, h with
          | [], h => cases h
          | [_], h => cases h
          | b :: c :: r, h =>
            simp only at h
            split at h
            · rename_i hc
              obtain ⟨c1, c2, c3, c4⟩ := hc
              rw [cont_iff] at c1 c2
              obtain ⟨rfl, rfl⟩ : (a - 224) * 4096 + (b - 128) * 64 + (c - 128) = v ∧ 3 = n := by simpa using h
              rw [enc3 (by omega) (by omega)]
              refine ⟨c4, rfl, ?_⟩
              show _ = [_, _, _] ++ r
              simp only [List.cons_append, List.nil_append, List.cons.injEq, and_true]
              omega
            · cases h
        · rw [if_neg h3] at h
          by_cases h4 : 240 ≤ a ∧ a < 248
          · rw [if_pos h4] at h
            match r, h with
            | [], h => cases h
            | [_], h => cases h
            | [_, _], h => cases h
            | b :: c :: d :: r, h =>
              simp only at h
              split at h
              · rename_i hc
                obtain ⟨c1, c2, c3, c4, c5⟩ := hc
                rw [cont_iff] at c1 c2 c3
                obtain ⟨rfl, rfl⟩ : (a - 240) * 262144 + (b - 128) * 4096 + (c - 128) * 64 + (d - 128) = v ∧ 4 = n := by simpa using h
                rw [enc4 (by omega)]
                refine ⟨c5, rfl, ?_⟩
                show _ = [_, _, _, _] ++ r
                simp only [List.cons_append, List.nil_append, List.cons.injEq, and_true]
                omega
              · cases h
          · rw [if_neg h4] at h
            cases h
/-- Bytes that begin with no number are no text. -/
theorem dec_none {b l : List Int} (h : dec b = none) (hb : b ≠ []) : ¬ Txt b l := by
  intro k
  cases l with
  | nil => exact hb (by have := k.2; simpa using this)
  | cons v l =>
    obtain ⟨hv, r, rfl, _⟩ := k.tail
    rw [dec_enc hv] at h
    cases h
end Go.Proofs.YtffegkjlgeblbaaGreatDoor.Utf
end

section
/- The document's bytes of a number, walked. -/
namespace Go.Proofs.YtffegkjlgeblbaaGreatDoor.Utf
open Go.RowKit
set_option maxRecDepth 100000
set_option maxHeartbeats 400000

/-- Bytes as cells; a new row of them. -/
def vb (l : List Int) : List Value := l.map (Value.int .u8)
end Go.Proofs.YtffegkjlgeblbaaGreatDoor.Utf
end

section
/- Words for bytes in memory, for texts; the document's first number, its parts. -/
namespace Go.Proofs.YtffegkjlgeblbaaGreatDoor.Utf
open Go.RowKit
set_option maxRecDepth 100000
set_option maxHeartbeats 400000

theorem vb_length (l : List Int) : (vb l).length = l.length := by simp [vb]
/-- A slice of bytes at an address that reads as l and lies below block B. -/
def Byt (w : World) (B : Nat) (ad : Addr) (l : List Int) : Prop := ad.block < B ∧ ad.spot = none ∧ ∀ j, j < l.length → w.cell? ⟨ad.block, ad.off + j, none⟩ = some (.int .u8 (l.getD j 0))
theorem Byt.keep {w w' : World} {B : Nat} {ad : Addr} {l : List Int} (h : Byt w B ad l) (hb : Below B w w') : Byt w' B ad l :=
  ⟨h.1, h.2.1, fun j hj => by rw [hb.cell (p := ⟨ad.block, ad.off + j, none⟩) h.1]; exact h.2.2 j hj⟩
theorem Byt.mono {w : World} {B B' : Nat} {ad : Addr} {l : List Int} (h : Byt w B ad l) (hB : B ≤ B') : Byt w B' ad l := ⟨by have := h.1; omega, h.2⟩
theorem Byt.take {w : World} {B : Nat} {ad : Addr} {l : List Int} (h : Byt w B ad l) (n : Nat) : Byt w B ad (l.take n) := ⟨h.1, h.2.1, fun j hj => by
  rw [List.length_take] at hj
  rw [h.2.2 j (by omega), show (l.take n).getD j 0 = l.getD j 0 from by rw [List.getD_eq_getElem?_getD, List.getD_eq_getElem?_getD, List.getElem?_take, if_pos (by omega)]]⟩
/-- Its text. -/
theorem run_txt (w : World) (g off n c : Nat) (l : List Int) (hl : l.length = n) (h : ∀ i, i < n → w.cell? ⟨g, off + i, none⟩ = some (.int .u8 (l.getD i 0))) : (convert 22 9 (.slice (some ⟨g, off, none⟩) n c)).run Tryz.prog w = .ok (.string (strOfNums l)) w :=
  run_convert_bytes_arg w 22 5 Tryz.underlying22 Tryz.underlying5 g off n c l hl h 9 Tryz.underlying9
theorem nil_txt (w : World) : (convert 22 9 (.slice none 0 0)).run Tryz.prog w = .ok (.string (strOfNums [])) w := rfl
theorem Byt.txt {w : World} {B g off : Nat} {l : List Int} (h : Byt w B ⟨g, off, none⟩ l) (c : Nat) : (convert 22 9 (.slice (some ⟨g, off, none⟩) l.length c)).run Tryz.prog w = .ok (.string (strOfNums l)) w :=
  run_txt w g off l.length c l rfl h.2.2
/-- Texts are one just if their bytes are. -/
theorem str_inj {a b : List Int} (ha : ∀ x ∈ a, 0 ≤ x ∧ x < 256) (hb : ∀ x ∈ b, 0 ≤ x ∧ x < 256) (h : strOfNums a = strOfNums b) : a = b := by
  have e := congrArg (fun s => s.data.toList) h
  simp only [strOfNums_data] at e
  have key : ∀ (a b : List Int), (∀ x ∈ a, 0 ≤ x ∧ x < 256) → (∀ x ∈ b, 0 ≤ x ∧ x < 256) → (a.map fun n => UInt8.ofNat n.toNat) = (b.map fun n => UInt8.ofNat n.toNat) → a = b := by
    intro a
    induction a with
    | nil => intro b _ _ h; cases b with
      | nil => rfl
      | cons y b => simp at h
    | cons x a ih => intro b ha hb h; cases b with
      | nil => simp at h
      | cons y b =>
        simp only [List.map_cons, List.cons.injEq] at h
        have hx := ha x (by simp)
        have hy := hb y (by simp)
        have h1 := congrArg UInt8.toNat h.1
        simp only [UInt8.toNat_ofNat'] at h1
        have : x = y := by omega
        rw [this, ih b (fun z hz => ha z (by simp [hz])) (fun z hz => hb z (by simp [hz])) h.2]
  exact key a b ha hb e
theorem str_toList {a b : ByteArray} (h : a.toList = b.toList) : a = b := by
  rw [ByteArray.toList_eq, ByteArray.toList_eq] at h
  obtain ⟨a⟩ := a
  obtain ⟨b⟩ := b
  exact congrArg ByteArray.mk (Array.toList_inj.1 h)
/-- What lay hands back, seen later: nothing, or new bytes. -/
def LayV (v : Int) (x : Value) (w : World) : Prop := (¬ okR v ∧ x = .slice none 0 0) ∨ (okR v ∧ ∃ g, x = .slice (some ⟨g, 0, none⟩) (enc v).length (enc v).length ∧ Byt w w.heap.size ⟨g, 0, none⟩ (enc v))
theorem LayV.stays {v : Int} : Stab.Stays (LayV v) := fun x w w' h hb => by
  rcases h with h | ⟨h, g, hx, hg⟩
  · exact .inl h
  · exact .inr ⟨h, g, hx, (hg.keep hb).mono hb.size⟩
/-- Its bytes. -/
def layL (v : Int) : List Int := if okR v then enc v else []
theorem LayV.txt {v : Int} {x : Value} {w : World} (h : LayV v x w) : (convert 22 9 x).run Tryz.prog w = .ok (.string (strOfNums (layL v))) w := by
  rcases h with ⟨h, rfl⟩ | ⟨h, g, rfl, hg⟩
  · rw [show layL v = [] from if_neg h]; exact nil_txt w
  · rw [show layL v = enc v from if_pos h]; exact hg.txt _
end Go.Proofs.YtffegkjlgeblbaaGreatDoor.Utf
end

section
/- The document's first number, walked: what any bytes begin with. -/
namespace Go.Proofs.YtffegkjlgeblbaaGreatDoor.Utf
open Go.RowKit
set_option maxRecDepth 100000
set_option maxHeartbeats 400000

/-- The number that bytes begin with, and how many they are; 0 and 0: none. -/
def fstN (l : List Int) : Int × Int := match dec l with | some (v, n) => (v, (n : Int)) | none => (0, 0)
/-- How first ends. -/
def FstEnds (l : List Int) (w : World) (e : Ending) (w' : World) : Prop := e = .returned (.tuple #[.int .i64 (fstN l).1, .int .i64 (fstN l).2]) ∧ Below w.heap.size w w'
theorem ends_at {l : List Int} {w : World} {v n : Int} (h : fstN l = (v, n)) {e : Ending} {w' : World} (hh : e = .returned (.tuple #[.int .i64 v, .int .i64 n]) ∧ Below w.heap.size w w') : FstEnds l w e w' := by
  obtain ⟨rfl, hb⟩ := hh
  exact ⟨by rw [h], hb⟩
end Go.Proofs.YtffegkjlgeblbaaGreatDoor.Utf
end

section
/- The document's numbers of a text, walked. -/
namespace Go.Proofs.YtffegkjlgeblbaaGreatDoor.Utf
open Go.RowKit
set_option maxRecDepth 100000
set_option maxHeartbeats 400000

/-- Whole numbers as cells; a slice of them of the call's own (nil, if there are none yet). -/
def vi (l : List Int) : List Value := l.map (Value.int .i64)
theorem int_info : (Tryz.prog.info? 3).map (fun i => (i.zero, i.size, i.bytes)) = some (some (.int .i64 0), 1, 8) := by kernel_rfl
def OwnI (w : World) (B : Nat) (v : Value) (l : List Int) : Prop := w.ownsRow B 3 1 v l.length (vi l)
theorem ownI_nil (w : World) (B : Nat) : OwnI w B (.slice none 0 0) [] := ⟨rfl, .inl ⟨rfl, rfl⟩⟩
theorem OwnI.block {w : World} {B : Nat} {v : Value} {l : List Int} (h : OwnI w B v l) : ∀ k, v.ownBlock = some k → B ≤ k := fun k hk => (World.ownsRow.lt h k hk).1
theorem OwnI.keep {w w' : World} {B : Nat} {v : Value} {l : List Int} (h : OwnI w B v l) (hb : Below w.heap.size w w') : OwnI w' B v l :=
  World.ownsRow.kept h ⟨hb.os, hb.tape, hb.output, hb.size, fun k hk _ => hb.block k hk⟩ (row := none) (by cases v.ownBlock <;> simp)
theorem one_newI (w : World) (v : Value) : ∀ j u, [v][j]? = some u → (w.alloc (.cells #[v] 3)).cell? ((⟨w.heap.size, 0, none⟩ : Addr).add j) = some u := by
  intro j u hu
  rcases j with _ | j
  · simp at hu
    subst hu
    simp [Addr.add]
  · simp at hu
/-- How far the numbers are told. -/
def Mid (w : World) (l : List Int) (k : Nat) (done : List Int) (o : Value) (wr : World) : Prop := k ≤ l.length ∧ (∀ v ∈ done, okR v) ∧ l.take k = done.flatMap enc ∧ done.length ≤ k ∧ OwnI wr w.heap.size o done ∧ Below w.heap.size w wr
theorem Byt.drop {w : World} {B g off : Nat} {l : List Int} (h : Byt w B ⟨g, off, none⟩ l) (k : Nat) : Byt w B ⟨g, off + k, none⟩ (l.drop k) := ⟨h.1, rfl, fun j hj => by
  rw [List.length_drop] at hj
  have := h.2.2 (k + j) (by omega)
  rw [show off + k + j = off + (k + j) from by omega]
  show w.cell? ⟨g, off + (k + j), none⟩ = _
  rw [show (l.drop k).getD j 0 = l.getD (k + j) 0 from by rw [List.getD_eq_getElem?_getD, List.getD_eq_getElem?_getD, List.getElem?_drop]]
  exact this⟩
theorem no_txt {l done : List Int} {k : Nat} (hd : ∀ v ∈ done, okR v) (ht : l.take k = done.flatMap enc) (h0 : l.drop k ≠ []) (hn : dec (l.drop k) = none) : ∀ x, ¬ Txt l x := by
  intro x hx
  obtain ⟨y, hy, _⟩ := Txt.rest (x := done) (a := l.take k) (b := l.drop k) ⟨hd, ht⟩ (by rw [List.take_append_drop]; exact hx)
  exact dec_none hn h0 hy
theorem more {l done : List Int} {k n : Nat} {v : Int} (hb : ∀ x ∈ l, 0 ≤ x ∧ x < 256) (hk : k ≤ l.length) (ht : l.take k = done.flatMap enc) (hs : dec (l.drop k) = some (v, n)) :
    okR v ∧ 1 ≤ n ∧ k + n ≤ l.length ∧ l.take (k + n) = (done ++ [v]).flatMap enc := by
  obtain ⟨hv, hn, e⟩ := dec_some (fun x hx => hb x (List.mem_of_mem_drop hx)) hs
  have hl := enc_len v
  have hlen := congrArg List.length e
  rw [List.length_append, List.length_drop, List.length_drop] at hlen
  refine ⟨hv, by omega, by omega, ?_⟩
  rw [List.flatMap_append, ← ht, List.take_add, e, hn, List.take_left]
  simp
end Go.Proofs.YtffegkjlgeblbaaGreatDoor.Utf
end

section
/- The document's 'are numbers the same', walked; what Runes and Valid tell, in one word; a text of no bytes. -/
namespace Go.Proofs.YtffegkjlgeblbaaGreatDoor.Utf
open Go.RowKit
set_option maxRecDepth 100000
set_option maxHeartbeats 400000

theorem ret_bool {a b : Bool} (h : a = b) : Ending.returned (.bool a) = .returned (.bool b) := by rw [h]
/-- The world as it was, but for what was drawn. -/
def Still (W w' : World) : Prop := ∃ n, w' = W.drewN n
theorem Still.same {W : World} : Still W W := ⟨0, rfl⟩
theorem Still.more {W w' : World} (h : Still W w') (n : Nat) : Still W (w'.drewN n) := by
  obtain ⟨m, rfl⟩ := h
  exact ⟨m + n, by rw [World.drewN_drewN]⟩
theorem Still.cell {W w' : World} (h : Still W w') (p : Addr) : w'.cell? p = W.cell? p := by
  obtain ⟨m, rfl⟩ := h
  simp
theorem Still.below {w w' : World} (h : Still w w') : Below w.heap.size w w' := by
  obtain ⟨n, rfl⟩ := h
  exact ⟨rfl, rfl, rfl, Nat.le_refl _, fun _ _ => rfl⟩
/-- Whole numbers at an address. -/
def IntAt (w : World) (g off : Nat) (l : List Int) : Prop := ∀ j, j < l.length → w.cell? ⟨g, off + j, none⟩ = some (.int .i64 (l.getD j 0))
end Go.Proofs.YtffegkjlgeblbaaGreatDoor.Utf
end

section
/- The document's Runes and Valid of any bytes: nil, or a row somewhere. -/
namespace Go.Proofs.YtffegkjlgeblbaaGreatDoor.Utf
open Go.RowKit
set_option maxRecDepth 100000
set_option maxHeartbeats 400000

/-- Bytes: none at all (wherever), or a row of them somewhere. -/
def Sl (w : World) (v : Value) (l : List Int) : Prop :=
  ∃ A c, v = .slice A l.length c ∧ l.length ≤ c ∧ c ≤ 9223372036854775807 ∧ (l ≠ [] → ∃ g off, A = some ⟨g, off, none⟩ ∧ Byt w w.heap.size ⟨g, off, none⟩ l)
theorem Sl.keep {w w' : World} {v : Value} {l : List Int} (h : Sl w v l) (hb : Below w.heap.size w w') : Sl w' v l := by
  obtain ⟨A, c, h1, h2, h3, h4⟩ := h
  refine ⟨A, c, h1, h2, h3, fun h0 => ?_⟩
  obtain ⟨g, off, e, hB⟩ := h4 h0
  exact ⟨g, off, e, (hB.keep hb).mono hb.size⟩
theorem Sl.nil (w : World) : Sl w (.slice none 0 0) [] := ⟨none, 0, rfl, Nat.le_refl _, by omega, fun h => absurd rfl h⟩
/-- Are bytes a text? -/
def isTxt (l : List Int) : Prop := ∃ x, Txt l x
open Classical in
noncomputable def isT (l : List Int) : Bool := decide (isTxt l)
open Classical in
theorem isT_true {l x : List Int} (h : Txt l x) : isT l = true := by unfold isT; exact decide_eq_true ⟨x, h⟩
open Classical in
theorem isT_false {l : List Int} (h : ∀ x, ¬ Txt l x) : isT l = false := by unfold isT; exact decide_eq_false (fun ⟨x, hx⟩ => h x hx)
end Go.Proofs.YtffegkjlgeblbaaGreatDoor.Utf
end

section
/- The document's FromRunes, walked. -/
namespace Go.Proofs.YtffegkjlgeblbaaGreatDoor.Utf
open Go.RowKit
set_option maxRecDepth 100000
set_option maxHeartbeats 400000

theorem byte_info : (Tryz.prog.info? 5).map (fun i => (i.zero, i.size, i.bytes)) = some (some (.int .u8 0), 1, 1) := by kernel_rfl
theorem vb_oneCell (l : List Int) : ∀ u ∈ vb l, u.oneCell' = true := by
  intro u hu
  obtain ⟨n, _, rfl⟩ := List.mem_map.1 hu
  rfl
/-- Bytes of the call's own, from block B on. -/
def OwnB (w : World) (B : Nat) (v : Value) (l : List Int) : Prop := w.ownsRow B 5 1 v l.length (vb l)
theorem OwnB.block {w : World} {B : Nat} {v : Value} {l : List Int} (h : OwnB w B v l) : ∀ k, v.ownBlock = some k → B ≤ k := fun k hk => (World.ownsRow.lt h k hk).1
theorem OwnB.keep {w w' : World} {B : Nat} {v : Value} {l : List Int} (h : OwnB w B v l) (hb : Below w.heap.size w w') : OwnB w' B v l :=
  World.ownsRow.kept h ⟨hb.os, hb.tape, hb.output, hb.size, fun k hk _ => hb.block k hk⟩ (row := none) (by cases v.ownBlock <;> simp)
theorem Byt.cells {w : World} {B g off : Nat} {l : List Int} (h : Byt w B ⟨g, off, none⟩ l) : ∀ j u, (vb l)[j]? = some u → w.cell? ((⟨g, off, none⟩ : Addr).add j) = some u := by
  intro j u hu
  unfold vb at hu
  rw [List.getElem?_map] at hu
  by_cases hj : j < l.length
  · have e := h.2.2 j hj
    rw [List.getElem?_eq_getElem hj] at hu
    simp at hu
    subst hu
    have e2 : l.getD j 0 = l[j] := by simp [hj]
    rw [e2] at e
    cases j with
    | zero => simpa [Addr.add] using e
    | succ j => simpa [Addr.add] using e
  · rw [List.getElem?_eq_none (by omega)] at hu
    simp at hu
/-- Whole numbers: none at all (wherever), or a row of them somewhere. -/
def SlI (w : World) (v : Value) (l : List Int) : Prop :=
  ∃ A c, v = .slice A l.length c ∧ l.length ≤ c ∧ c ≤ 9223372036854775807 ∧ (l ≠ [] → ∃ g off, A = some ⟨g, off, none⟩ ∧ g < w.heap.size ∧ IntAt w g off l)
theorem IntAt.keep {w w' : World} {B g off : Nat} {l : List Int} (h : IntAt w g off l) (hg : g < B) (hb : Below B w w') : IntAt w' g off l :=
  fun j hj => by rw [hb.cell (p := ⟨g, off + j, none⟩) hg]; exact h j hj
theorem SlI.keep {w w' : World} {v : Value} {l : List Int} (h : SlI w v l) (hb : Below w.heap.size w w') : SlI w' v l := by
  obtain ⟨A, c, h1, h2, h3, h4⟩ := h
  refine ⟨A, c, h1, h2, h3, fun h0 => ?_⟩
  obtain ⟨g, off, e, hg, hB⟩ := h4 h0
  exact ⟨g, off, e, Nat.lt_of_lt_of_le hg hb.size, hB.keep hg hb⟩
theorem flat_len (l : List Int) : (l.flatMap enc).length ≤ 4 * l.length := by
  induction l with
  | nil => simp
  | cons x l ih =>
    have := (enc_len x).2
    simp only [List.flatMap_cons, List.length_append, List.length_cons]
    omega
/-- A row of the call's own is a row somewhere. -/
theorem own_cells {w : World} {B g cap : Nat} {v : Value} {n : Nat} {xs : List Value} {t : TypeId} (h : w.ownsRow B t 1 v n xs) (hv : v = .slice (some ⟨g, 0, none⟩) n cap) : ∀ j u, xs[j]? = some u → w.cell? ⟨g, 0 + j, none⟩ = some u := by
  intro j u hu
  have e := World.ownsRow.cells h (g := g) (by subst hv; rfl) j u hu
  cases j with
  | zero => simpa [Addr.add] using e
  | succ j => simpa [Addr.add] using e
theorem OwnI.sl {w : World} {B : Nat} {v : Value} {l : List Int} (h : OwnI w B v l) : SlI w v l := by
  have h' := h
  obtain ⟨_, ⟨hv, hl⟩ | ⟨g, cap, cur, hv, hB, hc, hle, hm, hsz, ht⟩⟩ := h'
  · have : l = [] := List.length_eq_zero_iff.1 hl
    subst this
    exact ⟨none, 0, hv, Nat.le_refl _, by omega, fun h => absurd rfl h⟩
  · refine ⟨_, cap, hv, hle, by unfold maxLen at hm; omega, fun h0 => ⟨g, 0, rfl, ?_, fun j hj => own_cells h hv j _ ?_⟩⟩
    · exact (Array.getElem?_eq_some_iff.1 hc).1
    · unfold vi; rw [List.getElem?_map, List.getElem?_eq_getElem hj]; simp [hj]
theorem OwnB.sl {w : World} {B : Nat} {v : Value} {l : List Int} (h : OwnB w B v l) : Sl w v l := by
  have h' := h
  obtain ⟨_, ⟨hv, hl⟩ | ⟨g, cap, cur, hv, hB, hc, hle, hm, hsz, ht⟩⟩ := h'
  · have : l = [] := List.length_eq_zero_iff.1 hl
    subst this
    exact ⟨none, 0, hv, Nat.le_refl _, by omega, fun h => absurd rfl h⟩
  · refine ⟨_, cap, hv, hle, by unfold maxLen at hm; omega, fun h0 => ⟨g, 0, rfl, ?_, rfl, fun j hj => own_cells h hv j _ ?_⟩⟩
    · exact (Array.getElem?_eq_some_iff.1 hc).1
    · unfold vb; rw [List.getElem?_map, List.getElem?_eq_getElem hj]; simp [hj]
end Go.Proofs.YtffegkjlgeblbaaGreatDoor.Utf
end
