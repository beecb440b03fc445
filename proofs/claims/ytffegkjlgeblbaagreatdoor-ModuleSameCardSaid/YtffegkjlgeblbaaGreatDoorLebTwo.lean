/- LebTwo. -/
import Derived.Test.YtffegkjlgeblbaaGreatDoorLebOne
import Derived.Test.YtffegkjlgeblbaaGreatDoorStabAll
import Derived.Laws.BytesArg
import Derived.LoopN
/- Several parts in one text. -/
/- The document's own function that tells a number's digits, walked: digits of two, the lowest first, seven a byte. -/
namespace Go.Proofs.YtffegkjlgeblbaaGreatDoor.Leb
open Go.RowKit

end Go.Proofs.YtffegkjlgeblbaaGreatDoor.Leb

/- The document's own reader of a number that is not below 0, walked: it answers what its digits say. -/
namespace Go.Proofs.YtffegkjlgeblbaaGreatDoor.Leb
open Go.RowKit

def RTold (w : World) (v p e : Int) (k : IntKind) (en : Ending) (w' : World) : Prop := en = .returned (.tuple #[.int k v, .int .i64 p, .int .i64 e]) ∧ Below w.heap.size w w'

end Go.Proofs.YtffegkjlgeblbaaGreatDoor.Leb

/- The document's own reader of a number that may be below 0, walked: it answers what its digits say. -/
namespace Go.Proofs.YtffegkjlgeblbaaGreatDoor.Leb
open Go.RowKit

end Go.Proofs.YtffegkjlgeblbaaGreatDoor.Leb

/- Plain facts: what the program's reader and the document's say of any bytes is the same. -/
namespace Go.Proofs.YtffegkjlgeblbaaGreatDoor.Leb
open Go.RowKit

theorem getD_app (a b : List Int) (t : Nat) : (a ++ b).getD t 0 = if t < a.length then a.getD t 0 else b.getD (t - a.length) 0 := by
  simp only [List.getD_eq_getElem?_getD]
  split
  · rename_i h
    rw [List.getElem?_append_left h]
  · rename_i h
    rw [List.getElem?_append_right (by omega)]

end Go.Proofs.YtffegkjlgeblbaaGreatDoor.Leb

/- LebReads walked: what is read of any bytes, from any place, of any width, is what the document says. -/
namespace Go.Proofs.YtffegkjlgeblbaaGreatDoor.Leb
open Go.RowKit

theorem bad_told {w : World} {f : FuncId} {args : Array Value} {k : IntKind} (h : Calls Tryz.prog f args w fun e w' => e = .returned (.tuple #[.int k 0, .int .i64 0, .int .i64 1]) ∧ w = w') : Calls Tryz.prog f args w (RTold w 0 0 1 k) :=
  h.mono fun e w' ⟨he, hw⟩ => ⟨he, by subst hw; exact Below.refl _ _⟩

end Go.Proofs.YtffegkjlgeblbaaGreatDoor.Leb

/- Bytes somewhere in memory, as the texts of layer 4 take them; their text; a new byte behind others. -/
namespace Go.Proofs.YtffegkjlgeblbaaGreatDoor.Typ
open Go.RowKit
set_option maxRecDepth 100000
set_option maxHeartbeats 400000

def vb (l : List Int) : List Value := l.map (Value.int .u8)
def Byt (w : World) (B : Nat) (ad : Addr) (l : List Int) : Prop := ad.block < B ∧ ad.spot = none ∧ ∀ j, j < l.length → w.cell? ⟨ad.block, ad.off + j, none⟩ = some (.int .u8 (l.getD j 0))
theorem Byt.keep {w w' : World} {B : Nat} {ad : Addr} {l : List Int} (h : Byt w B ad l) (hb : Below B w w') : Byt w' B ad l :=
  ⟨h.1, h.2.1, fun j hj => by rw [hb.cell (p := ⟨ad.block, ad.off + j, none⟩) h.1]; exact h.2.2 j hj⟩
theorem Byt.mono {w : World} {B B' : Nat} {ad : Addr} {l : List Int} (h : Byt w B ad l) (hB : B ≤ B') : Byt w B' ad l := ⟨by have := h.1; omega, h.2⟩
theorem run_txt (w : World) (g off n c : Nat) (l : List Int) (hl : l.length = n) (h : ∀ i, i < n → w.cell? ⟨g, off + i, none⟩ = some (.int .u8 (l.getD i 0))) : (convert 22 9 (.slice (some ⟨g, off, none⟩) n c)).run Tryz.prog w = .ok (.string (strOfNums l)) w :=
  run_convert_bytes_arg w 22 5 Tryz.underlying22 Tryz.underlying5 g off n c l hl h 9 Tryz.underlying9
theorem str_inj {a b : List Int} (ha : ∀ x ∈ a, 0 ≤ x ∧ x < 256) (hb : ∀ x ∈ b, 0 ≤ x ∧ x < 256) (h : strOfNums a = strOfNums b) : a = b := by
  have e := congrArg (fun s => s.data.toList) h
  simp only [strOfNums_data] at e
  have key : ∀ (a b : List Int), (∀ x ∈ a, 0 ≤ x ∧ x < 256) → (∀ x ∈ b, 0 ≤ x ∧ x < 256) → (a.map fun n => UInt8.ofNat n.toNat) = (b.map fun n => UInt8.ofNat n.toNat) → a = b := by
    intro a
    induction a with
    | nil => intro b _ _ h; cases b with
      | nil => rfl
      | cons y b => simp at h
    | cons x a ih => intro b ha hb h; cases b with
      | nil => simp at h
      | cons y b =>
        simp only [List.map_cons, List.cons.injEq] at h
        have hx := ha x (by simp)
        have hy := hb y (by simp)
        have h1 := congrArg UInt8.toNat h.1
        simp only [UInt8.toNat_ofNat'] at h1
        have : x = y := by omega
        rw [this, ih b (fun z hz => ha z (by simp [hz])) (fun z hz => hb z (by simp [hz])) h.2]
  exact key a b ha hb e
def Sl (w : World) (v : Value) (l : List Int) : Prop :=
  ∃ A c, v = .slice A l.length c ∧ l.length ≤ c ∧ c ≤ 9223372036854775807 ∧ (l ≠ [] → ∃ g off, A = some ⟨g, off, none⟩ ∧ Byt w w.heap.size ⟨g, off, none⟩ l)
theorem Sl.keep {w w' : World} {v : Value} {l : List Int} (h : Sl w v l) (hb : Below w.heap.size w w') : Sl w' v l := by
  obtain ⟨A, c, h1, h2, h3, h4⟩ := h
  refine ⟨A, c, h1, h2, h3, fun h0 => ?_⟩
  obtain ⟨g, off, e, hB⟩ := h4 h0
  exact ⟨g, off, e, (hB.keep hb).mono hb.size⟩
theorem Sl.nil (w : World) : Sl w (.slice none 0 0) [] := ⟨none, 0, rfl, Nat.le_refl _, by omega, fun h => absurd rfl h⟩
theorem byte_info : (Tryz.prog.info? 5).map (fun i => (i.zero, i.size, i.bytes)) = some (some (.int .u8 0), 1, 1) := by kernel_rfl
theorem vb_oneCell (l : List Int) : ∀ u ∈ vb l, u.oneCell' = true := by
  intro u hu
  obtain ⟨n, _, rfl⟩ := List.mem_map.1 hu
  rfl
def OwnB (w : World) (B : Nat) (v : Value) (l : List Int) : Prop := w.ownsRow B 5 1 v l.length (vb l)
theorem ownB_nil (w : World) (B : Nat) : OwnB w B (.slice none 0 0) [] := ⟨rfl, .inl ⟨rfl, rfl⟩⟩
theorem OwnB.keep {w w' : World} {B : Nat} {v : Value} {l : List Int} (h : OwnB w B v l) (hb : Below w.heap.size w w') : OwnB w' B v l :=
  World.ownsRow.kept h ⟨hb.os, hb.tape, hb.output, hb.size, fun k hk _ => hb.block k hk⟩ (row := none) (by cases v.ownBlock <;> simp)
theorem Byt.cells {w : World} {B g off : Nat} {l : List Int} (h : Byt w B ⟨g, off, none⟩ l) : ∀ j u, (vb l)[j]? = some u → w.cell? ((⟨g, off, none⟩ : Addr).add j) = some u := by
  intro j u hu
  unfold vb at hu
  rw [List.getElem?_map] at hu
  by_cases hj : j < l.length
  · have e := h.2.2 j hj
    rw [List.getElem?_eq_getElem hj] at hu
    simp at hu
    subst hu
    have e2 : l.getD j 0 = l[j] := by simp [hj]
    rw [e2] at e
    cases j with
    | zero => simpa [Addr.add] using e
    | succ j => simpa [Addr.add] using e
  · rw [List.getElem?_eq_none (by omega)] at hu
    simp at hu
theorem own_cells {w : World} {B g cap : Nat} {v : Value} {n : Nat} {xs : List Value} {t : TypeId} (h : w.ownsRow B t 1 v n xs) (hv : v = .slice (some ⟨g, 0, none⟩) n cap) : ∀ j u, xs[j]? = some u → w.cell? ⟨g, 0 + j, none⟩ = some u := by
  intro j u hu
  have e := World.ownsRow.cells h (g := g) (by subst hv; rfl) j u hu
  cases j with
  | zero => simpa [Addr.add] using e
  | succ j => simpa [Addr.add] using e
theorem OwnB.sl {w : World} {B : Nat} {v : Value} {l : List Int} (h : OwnB w B v l) : Sl w v l := by
  have h' := h
  obtain ⟨_, ⟨hv, hl⟩ | ⟨g, cap, cur, hv, hB, hc, hle, hm, hsz, ht⟩⟩ := h'
  · have : l = [] := List.length_eq_zero_iff.1 hl
    subst this
    exact ⟨none, 0, hv, Nat.le_refl _, by omega, fun h => absurd rfl h⟩
  · refine ⟨_, cap, hv, hle, by unfold maxLen at hm; omega, fun h0 => ⟨g, 0, rfl, ?_, rfl, fun j hj => own_cells h hv j _ ?_⟩⟩
    · exact (Array.getElem?_eq_some_iff.1 hc).1
    · unfold vb; rw [List.getElem?_map, List.getElem?_eq_getElem hj]; simp [hj]
theorem none_txt (A : Option Addr) (c : Nat) (w : World) : (convert 22 9 (.slice A 0 c)).run Tryz.prog w = .ok (.string (strOfNums [])) w := by
  cases A with
  | none => rfl
  | some a => rfl
theorem sl_txt {w : World} {v : Value} {l : List Int} (h : Sl w v l) : (convert 22 9 v).run Tryz.prog w = .ok (.string (strOfNums l)) w := by
  obtain ⟨A, c, rfl, _, _, h4⟩ := h
  by_cases h0 : l = []
  · subst h0
    exact none_txt A c w
  · obtain ⟨g, off, rfl, hB⟩ := h4 h0
    exact run_txt w g off l.length c l rfl hB.2.2
theorem Sl.leb {w : World} {A : Option Addr} {n c : Nat} {l : List Int} (h : Sl w (.slice A n c) l) : Leb.Byt w w.heap.size A l := by
  intro h0
  obtain ⟨A', c', e, _, _, h4⟩ := h
  obtain ⟨g, off, rfl, hB⟩ := h4 (fun e => by rw [e] at h0; simp at h0)
  injection e with e1 e2 e3
  subst e1
  exact ⟨_, rfl, hB.1, fun j u hu => hB.cells j u hu⟩
theorem by255 {l : List Int} (h : ∀ x ∈ l, 0 ≤ x ∧ x < 256) : ∀ x ∈ l, 0 ≤ x ∧ x ≤ 255 := fun x hx => by have := h x hx; omega
theorem rdl_len {fit : Int → Nat → Bool} {bits : Nat} : ∀ (l : List Int) (lo acc v m : Nat), Leb.rdl fit bits l lo acc = .ok v m → m ≤ lo + 7 * l.length
  | [], _, _, _, _, h => by cases h
  | c :: r, lo, acc, v, m, h => by
    rw [Leb.rdl] at h
    rw [List.length_cons]
    split at h
    · cases h
    · split at h
      · injection h with _ h
        omega
      · have := rdl_len r (lo + 7) _ v m h
        omega
theorem cell_spot {w : World} {x : Addr} {v : Value} (h : w.cell? x = some v) : x.spot = none := by
  unfold World.cell? at h
  split at h
  · split at h
    · cases h
    · rename_i hs
      cases hx : x.spot with
      | none => rfl
      | some _ => rw [hx] at hs; simp at hs
  · cases h
theorem add_plain (b o j : Nat) : (⟨b, o, none⟩ : Addr).add j = ⟨b, o + j, none⟩ := by
  unfold Addr.add
  split
  · rename_i h; subst h; rfl
  · rfl
theorem take_getD (zs : List Int) (n j : Nat) (h : j < n) : (zs.take n).getD j 0 = zs.getD j 0 := by
  rw [List.getD_eq_getElem?_getD, List.getD_eq_getElem?_getD, List.getElem?_take, if_pos h]
theorem came_parts {k : IntKind} {w : World} {a : Option Addr} {len cap : Nat} {zs : List Int} (h : Leb.Came k w a len cap zs) :
    (zs.take len).length = len ∧ len ≤ cap ∧ cap ≤ 9223372036854775807 ∧ (zs.take len ≠ [] → ∃ g off, a = some ⟨g, off, none⟩ ∧ g < w.heap.size ∧ ∀ j, j < len → w.cell? ⟨g, off + j, none⟩ = some (.int k ((zs.take len).getD j 0))) ∧ ∀ n ∈ zs.take len, (Lit.int k n).wf = true := by
  rcases h with ⟨rfl, rfl, rfl, rfl⟩ | ⟨x, rfl, hl, hm, hz, hc, hw⟩
  · exact ⟨rfl, Nat.le_refl _, by omega, fun h => absurd rfl h, by simp⟩
  · have hlen : (zs.take len).length = len := by rw [List.length_take]; omega
    unfold maxLen at hm
    refine ⟨hlen, hl, by omega, fun h0 => ?_, fun n hn => hw n (List.mem_of_mem_take hn)⟩
    have hpos : 0 < len := by
      rcases Nat.eq_zero_or_pos len with e | e
      · rw [e] at h0; simp at h0
      · exact e
    have h1 := hc 0 (by omega)
    rw [show x.add 0 = x from by unfold Addr.add; rw [if_pos rfl]] at h1
    obtain ⟨g, off, sp⟩ := x
    obtain rfl : sp = none := cell_spot h1
    refine ⟨g, off, rfl, World.block_lt_of_cell? w _ h1, fun j hj => ?_⟩
    rw [← add_plain, take_getD zs len j hj]
    exact hc j (by omega)
theorem OwnB.row {w : World} {B : Nat} {v : Value} {l : List Int} (h : OwnB w B v l) : ∃ A c, v = .slice A l.length c ∧ Sl w (.slice A l.length c) l := by
  have hs := h.sl
  obtain ⟨A, c, e, _⟩ := h.sl
  exact ⟨A, c, e, by rw [← e]; exact hs⟩
end Go.Proofs.YtffegkjlgeblbaaGreatDoor.Typ

/- Numbers of 32 digits in bytes: how great, how many bytes, cut short. Plain lists. -/
namespace Go.Proofs.YtffegkjlgeblbaaGreatDoor.Typ
open Go.RowKit Leb
set_option maxRecDepth 100000
set_option maxHeartbeats 1000000

theorem rdl32_step {acc lo : Nat} {c : Int} (h0 : 0 ≤ c) (hlo : lo = 0 ∨ lo = 7 ∨ lo = 14 ∨ lo = 21 ∨ lo = 28) (ha : acc < 2 ^ lo) : more acc lo c < 2 ^ (lo + 7) ∧ (32 ≤ lo + 7 → c < 2 ^ (32 - lo) → more acc lo c < 4294967296) := by
  have hu : ((c % 128).toNat : Int) = c % 128 := by omega
  generalize hU : (c % 128).toNat = u at *
  have hb : u < 128 := by omega
  rcases hlo with rfl | rfl | rfl | rfl | rfl <;> rw [more_small acc _ c u hu.symm (by omega)] <;> refine ⟨by omega, fun h1 h2 => by omega⟩
theorem rdl32_small : ∀ (l : List Int) (lo acc v m : Nat), (∀ x ∈ l, 0 ≤ x ∧ x < 256) → (lo = 0 ∨ lo = 7 ∨ lo = 14 ∨ lo = 21 ∨ lo = 28) → acc < 2 ^ lo → rdl fitU 32 l lo acc = .ok v m → v < 4294967296 ∧ ∃ j, m = 7 * (j + 1) ∧ j ≤ 4 ∧ v < 128 ^ (j + 1)
  | [], _, _, _, _, _, _, _, h => by cases h
  | c :: r, lo, acc, v, m, hx, hlo, ha, h => by
    have hc := hx c (by simp)
    obtain ⟨s1, s2⟩ := rdl32_step hc.1 hlo ha
    rw [rdl] at h
    split at h
    · cases h
    · rename_i hn
      split at h
      · injection h with h1 h2
        subst h1 h2
        rcases hlo with rfl | rfl | rfl | rfl | rfl
        · exact ⟨by omega, 0, by omega, by omega, by omega⟩
        · exact ⟨by omega, 1, by omega, by omega, by omega⟩
        · exact ⟨by omega, 2, by omega, by omega, by omega⟩
        · exact ⟨by omega, 3, by omega, by omega, by omega⟩
        · have hf : fitU c (32 - 28) = true := by
            cases hq : fitU c (32 - 28) with
            | true => rfl
            | false => exact absurd ⟨by omega, .inr hq⟩ hn
          refine ⟨s2 (by omega) (by unfold fitU at hf; simpa using hf), 4, by omega, by omega, by omega⟩
      · refine rdl32_small r (lo + 7) _ v m (fun x hx' => hx x (by simp [hx'])) ?_ s1 h
        have : ¬ 32 ≤ lo + 7 := fun h32 => hn ⟨h32, .inl (by omega)⟩
        omega
theorem rdl32 {l : List Int} {v m : Nat} (hx : ∀ x ∈ l, 0 ≤ x ∧ x < 256) (h : rdl fitU 32 l 0 0 = .ok v m) : v < 4294967296 ∧ lenU v ≤ m / 7 := by
  obtain ⟨h1, j, rfl, _, h2⟩ := rdl32_small l 0 0 v m hx (.inl rfl) (by simp) h
  exact ⟨h1, by have := lenU_le j v h2; omega⟩
theorem back32 {v : Nat} (h : v < 4294967296) (tail : List Int) : rdl fitU 32 (uB v ++ tail) 0 0 = .ok v (7 * lenU v) := by
  rw [rdU_back 32 (by omega) tail v v 0 0 (Nat.le_refl _) (by omega) rfl (by simp), Nat.sub_zero, if_pos (by omega)]
  simp
end Go.Proofs.YtffegkjlgeblbaaGreatDoor.Typ
