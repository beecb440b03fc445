/- Bytes somewhere in memory, as the texts of layer 4 take them; their text; a new byte behind others. -/
import Derived.Test.YtnminpbnlcgblaaLebReadsWalk
import Derived.Test.YtnminpbnlcgblaaLebOrderWalk
import Derived.Test.YtnminpbnlcgblaaStabT
import Derived.Laws.BytesArg
import Derived.LoopN
namespace Go.Proofs.Ytnminpbnlcgblaa.Typ
open Go.RowKit
set_option maxRecDepth 100000
set_option maxHeartbeats 400000

def vb (l : List Int) : List Value := l.map (Value.int .u8)
theorem vb_length (l : List Int) : (vb l).length = l.length := by simp [vb]
/-- A slice of bytes at an address that reads as l and lies below block B. -/
def Byt (w : World) (B : Nat) (ad : Addr) (l : List Int) : Prop := ad.block < B ∧ ad.spot = none ∧ ∀ j, j < l.length → w.cell? ⟨ad.block, ad.off + j, none⟩ = some (.int .u8 (l.getD j 0))
theorem Byt.keep {w w' : World} {B : Nat} {ad : Addr} {l : List Int} (h : Byt w B ad l) (hb : Below B w w') : Byt w' B ad l :=
  ⟨h.1, h.2.1, fun j hj => by rw [hb.cell (p := ⟨ad.block, ad.off + j, none⟩) h.1]; exact h.2.2 j hj⟩
theorem Byt.mono {w : World} {B B' : Nat} {ad : Addr} {l : List Int} (h : Byt w B ad l) (hB : B ≤ B') : Byt w B' ad l := ⟨by have := h.1; omega, h.2⟩
theorem Byt.take {w : World} {B : Nat} {ad : Addr} {l : List Int} (h : Byt w B ad l) (n : Nat) : Byt w B ad (l.take n) := ⟨h.1, h.2.1, fun j hj => by
  rw [List.length_take] at hj
  rw [h.2.2 j (by omega), show (l.take n).getD j 0 = l.getD j 0 from by rw [List.getD_eq_getElem?_getD, List.getD_eq_getElem?_getD, List.getElem?_take, if_pos (by omega)]]⟩
/-- Its text. -/
theorem run_txt (w : World) (g off n c : Nat) (l : List Int) (hl : l.length = n) (h : ∀ i, i < n → w.cell? ⟨g, off + i, none⟩ = some (.int .u8 (l.getD i 0))) : (convert 22 9 (.slice (some ⟨g, off, none⟩) n c)).run Try.prog w = .ok (.string (strOfNums l)) w :=
  run_convert_bytes_arg w 22 5 Try.underlying22 Try.underlying5 g off n c l hl h 9 Try.underlying9
/-- Texts are one just if their bytes are. -/
theorem str_inj {a b : List Int} (ha : ∀ x ∈ a, 0 ≤ x ∧ x < 256) (hb : ∀ x ∈ b, 0 ≤ x ∧ x < 256) (h : strOfNums a = strOfNums b) : a = b := by
  have e := congrArg (fun s => s.data.toList) h
  simp only [strOfNums_data] at e
  have key : ∀ (a b : List Int), (∀ x ∈ a, 0 ≤ x ∧ x < 256) → (∀ x ∈ b, 0 ≤ x ∧ x < 256) → (a.map fun n => UInt8.ofNat n.toNat) = (b.map fun n => UInt8.ofNat n.toNat) → a = b := by
    intro a
    induction a with
    | nil => intro b _ _ h; cases b with
      | nil => rfl
      | cons y b => simp at h
    | cons x a ih => intro b ha hb h; cases b with
      | nil => simp at h
      | cons y b =>
        simp only [List.map_cons, List.cons.injEq] at h
        have hx := ha x (by simp)
        have hy := hb y (by simp)
        have h1 := congrArg UInt8.toNat h.1
        simp only [UInt8.toNat_ofNat'] at h1
        have : x = y := by omega
        rw [this, ih b (fun z hz => ha z (by simp [hz])) (fun z hz => hb z (by simp [hz])) h.2]
  exact key a b ha hb e
theorem Byt.drop {w : World} {B g off : Nat} {l : List Int} (h : Byt w B ⟨g, off, none⟩ l) (k : Nat) : Byt w B ⟨g, off + k, none⟩ (l.drop k) := ⟨h.1, rfl, fun j hj => by
  rw [List.length_drop] at hj
  have := h.2.2 (k + j) (by omega)
  rw [show off + k + j = off + (k + j) from by omega]
  show w.cell? ⟨g, off + (k + j), none⟩ = _
  rw [show (l.drop k).getD j 0 = l.getD (k + j) 0 from by rw [List.getD_eq_getElem?_getD, List.getD_eq_getElem?_getD, List.getElem?_drop]]
  exact this⟩
/-- Bytes: none at all (wherever), or a row of them somewhere. -/
def Sl (w : World) (v : Value) (l : List Int) : Prop :=
  ∃ A c, v = .slice A l.length c ∧ l.length ≤ c ∧ c ≤ 9223372036854775807 ∧ (l ≠ [] → ∃ g off, A = some ⟨g, off, none⟩ ∧ Byt w w.heap.size ⟨g, off, none⟩ l)
theorem Sl.keep {w w' : World} {v : Value} {l : List Int} (h : Sl w v l) (hb : Below w.heap.size w w') : Sl w' v l := by
  obtain ⟨A, c, h1, h2, h3, h4⟩ := h
  refine ⟨A, c, h1, h2, h3, fun h0 => ?_⟩
  obtain ⟨g, off, e, hB⟩ := h4 h0
  exact ⟨g, off, e, (hB.keep hb).mono hb.size⟩
theorem Sl.nil (w : World) : Sl w (.slice none 0 0) [] := ⟨none, 0, rfl, Nat.le_refl _, by omega, fun h => absurd rfl h⟩
theorem byte_info : (Try.prog.info? 5).map (fun i => (i.zero, i.size, i.bytes)) = some (some (.int .u8 0), 1, 1) := by kernel_rfl
theorem vb_oneCell (l : List Int) : ∀ u ∈ vb l, u.oneCell' = true := by
  intro u hu
  obtain ⟨n, _, rfl⟩ := List.mem_map.1 hu
  rfl
/-- Bytes of the call's own, from block B on (nil, if there are none yet). -/
def OwnB (w : World) (B : Nat) (v : Value) (l : List Int) : Prop := w.ownsRow B 5 1 v l.length (vb l)
theorem ownB_nil (w : World) (B : Nat) : OwnB w B (.slice none 0 0) [] := ⟨rfl, .inl ⟨rfl, rfl⟩⟩
theorem OwnB.block {w : World} {B : Nat} {v : Value} {l : List Int} (h : OwnB w B v l) : ∀ k, v.ownBlock = some k → B ≤ k := fun k hk => (World.ownsRow.lt h k hk).1
theorem OwnB.keep {w w' : World} {B : Nat} {v : Value} {l : List Int} (h : OwnB w B v l) (hb : Below w.heap.size w w') : OwnB w' B v l :=
  World.ownsRow.kept h ⟨hb.os, hb.tape, hb.output, hb.size, fun k hk _ => hb.block k hk⟩ (row := none) (by cases v.ownBlock <;> simp)
theorem Byt.cells {w : World} {B g off : Nat} {l : List Int} (h : Byt w B ⟨g, off, none⟩ l) : ∀ j u, (vb l)[j]? = some u → w.cell? ((⟨g, off, none⟩ : Addr).add j) = some u := by
  intro j u hu
  unfold vb at hu
  rw [List.getElem?_map] at hu
  by_cases hj : j < l.length
  · have e := h.2.2 j hj
    rw [List.getElem?_eq_getElem hj] at hu
    simp at hu
    subst hu
    have e2 : l.getD j 0 = l[j] := by simp [hj]
    rw [e2] at e
    cases j with
    | zero => simpa [Addr.add] using e
    | succ j => simpa [Addr.add] using e
  · rw [List.getElem?_eq_none (by omega)] at hu
    simp at hu
theorem one_newB (w : World) (v : Value) : ∀ j u, [v][j]? = some u → (w.alloc (.cells #[v] 5)).cell? ((⟨w.heap.size, 0, none⟩ : Addr).add j) = some u := by
  intro j u hu
  rcases j with _ | j
  · simp at hu
    subst hu
    simp [Addr.add]
  · simp at hu
/-- 'append(s, y)' on bytes of the call's own, or on nil. -/
theorem wp_one {ops : Array Oper} {rest : List Oper} {o : Oper} {a : Act} {Q : Exit → Act → World → Prop} (w : World) (hgd : o.guard = none) (s x : Operand)
    (ho : o.op = .call { callee := .builtin .append, args := #[s, x], argTypes := #[22, 22] }) (B : Nat) (v : Value) (done : List Int) (y : Int) (hs : a.eval s = v) (hown : OwnB w B v done)
    (hx : a.eval x = .slice (some ⟨w.heap.size, 0, none⟩) 1 1) (hlen : done.length ≤ 10000000) (hB : B ≤ w.heap.size)
    (h : ∀ v' w', OwnB w' B v' (done ++ [y]) → Below B w w' → wpList Try.prog ops Q rest (a.put o.dst v') w') : wpList Try.prog ops Q (o :: rest) a (w.alloc (.cells #[.int .u8 y] 5)) := by
  obtain ⟨i0, hi, hz0, hz1, hz2⟩ := info_parts byte_info
  refine wpList_append_own _ hgd s x 22 ho B 5 i0 (.int .u8 0) 1 1 Try.underlying22 hi hz0 hz1 hz2 rfl (by decide) v _ _ hs (World.ownsRow.alloc hown _) ⟨w.heap.size, 0, none⟩ 1 1 [.int .u8 y] hx rfl (one_newB w _) (by intro u hu; simp at hu; subst hu; rfl) (by simp only [maxLen]; omega) (by omega) (by simp; omega) ?_
  intro v' w' ho' hg hn
  refine h v' w' ?_ (((Below.refl _ _).alloc hB _).grown hg (by simp; omega) hown.block)
  have ho2 : w'.ownsRow B 5 1 v' (done ++ [y]).length (vb (done ++ [y])) := by simpa [vb] using ho'
  exact ho2
theorem own_cells {w : World} {B g cap : Nat} {v : Value} {n : Nat} {xs : List Value} {t : TypeId} (h : w.ownsRow B t 1 v n xs) (hv : v = .slice (some ⟨g, 0, none⟩) n cap) : ∀ j u, xs[j]? = some u → w.cell? ⟨g, 0 + j, none⟩ = some u := by
  intro j u hu
  have e := World.ownsRow.cells h (g := g) (by subst hv; rfl) j u hu
  cases j with
  | zero => simpa [Addr.add] using e
  | succ j => simpa [Addr.add] using e
theorem OwnB.sl {w : World} {B : Nat} {v : Value} {l : List Int} (h : OwnB w B v l) : Sl w v l := by
  have h' := h
  obtain ⟨_, ⟨hv, hl⟩ | ⟨g, cap, cur, hv, hB, hc, hle, hm, hsz, ht⟩⟩ := h'
  · have : l = [] := List.length_eq_zero_iff.1 hl
    subst this
    exact ⟨none, 0, hv, Nat.le_refl _, by omega, fun h => absurd rfl h⟩
  · refine ⟨_, cap, hv, hle, by unfold maxLen at hm; omega, fun h0 => ⟨g, 0, rfl, ?_, rfl, fun j hj => own_cells h hv j _ ?_⟩⟩
    · exact (Array.getElem?_eq_some_iff.1 hc).1
    · unfold vb; rw [List.getElem?_map, List.getElem?_eq_getElem hj]; simp [hj]
theorem none_txt (A : Option Addr) (c : Nat) (w : World) : (convert 22 9 (.slice A 0 c)).run Try.prog w = .ok (.string (strOfNums [])) w := by
  cases A with
  | none => rfl
  | some a => rfl
theorem sl_txt {w : World} {v : Value} {l : List Int} (h : Sl w v l) : (convert 22 9 v).run Try.prog w = .ok (.string (strOfNums l)) w := by
  obtain ⟨A, c, rfl, _, _, h4⟩ := h
  by_cases h0 : l = []
  · subst h0
    exact none_txt A c w
  · obtain ⟨g, off, rfl, hB⟩ := h4 h0
    exact run_txt w g off l.length c l rfl hB.2.2
theorem Sl.leb {w : World} {A : Option Addr} {n c : Nat} {l : List Int} (h : Sl w (.slice A n c) l) : Leb.Byt w w.heap.size A l := by
  intro h0
  obtain ⟨A', c', e, _, _, h4⟩ := h
  obtain ⟨g, off, rfl, hB⟩ := h4 (fun e => by rw [e] at h0; simp at h0)
  injection e with e1 e2 e3
  subst e1
  exact ⟨_, rfl, hB.1, fun j u hu => hB.cells j u hu⟩
theorem by255 {l : List Int} (h : ∀ x ∈ l, 0 ≤ x ∧ x < 256) : ∀ x ∈ l, 0 ≤ x ∧ x ≤ 255 := fun x hx => by have := h x hx; omega
theorem rdl_len {fit : Int → Nat → Bool} {bits : Nat} : ∀ (l : List Int) (lo acc v m : Nat), Leb.rdl fit bits l lo acc = .ok v m → m ≤ lo + 7 * l.length
  | [], _, _, _, _, h => by cases h
  | c :: r, lo, acc, v, m, h => by
    rw [Leb.rdl] at h
    rw [List.length_cons]
    split at h
    · cases h
    · split at h
      · injection h with _ h
        omega
      · have := rdl_len r (lo + 7) _ v m h
        omega
theorem cell_spot {w : World} {x : Addr} {v : Value} (h : w.cell? x = some v) : x.spot = none := by
  unfold World.cell? at h
  split at h
  · split at h
    · cases h
    · rename_i hs
      cases hx : x.spot with
      | none => rfl
      | some _ => rw [hx] at hs; simp at hs
  · cases h
theorem add_plain (b o j : Nat) : (⟨b, o, none⟩ : Addr).add j = ⟨b, o + j, none⟩ := by
  unfold Addr.add
  split
  · rename_i h; subst h; rfl
  · rfl
theorem take_getD (zs : List Int) (n j : Nat) (h : j < n) : (zs.take n).getD j 0 = zs.getD j 0 := by
  rw [List.getD_eq_getElem?_getD, List.getD_eq_getElem?_getD, List.getElem?_take, if_pos h]
theorem came_parts {k : IntKind} {w : World} {a : Option Addr} {len cap : Nat} {zs : List Int} (h : Leb.Came k w a len cap zs) :
    (zs.take len).length = len ∧ len ≤ cap ∧ cap ≤ 9223372036854775807 ∧ (zs.take len ≠ [] → ∃ g off, a = some ⟨g, off, none⟩ ∧ g < w.heap.size ∧ ∀ j, j < len → w.cell? ⟨g, off + j, none⟩ = some (.int k ((zs.take len).getD j 0))) ∧ ∀ n ∈ zs.take len, (Lit.int k n).wf = true := by
  rcases h with ⟨rfl, rfl, rfl, rfl⟩ | ⟨x, rfl, hl, hm, hz, hc, hw⟩
  · exact ⟨rfl, Nat.le_refl _, by omega, fun h => absurd rfl h, by simp⟩
  · have hlen : (zs.take len).length = len := by rw [List.length_take]; omega
    unfold maxLen at hm
    refine ⟨hlen, hl, by omega, fun h0 => ?_, fun n hn => hw n (List.mem_of_mem_take hn)⟩
    have hpos : 0 < len := by
      rcases Nat.eq_zero_or_pos len with e | e
      · rw [e] at h0; simp at h0
      · exact e
    have h1 := hc 0 (by omega)
    rw [show x.add 0 = x from by unfold Addr.add; rw [if_pos rfl]] at h1
    obtain ⟨g, off, sp⟩ := x
    obtain rfl : sp = none := cell_spot h1
    refine ⟨g, off, rfl, World.block_lt_of_cell? w _ h1, fun j hj => ?_⟩
    rw [← add_plain, take_getD zs len j hj]
    exact hc j (by omega)
theorem came_sl {w : World} {a : Option Addr} {len cap : Nat} {zs : List Int} (h : Leb.Came .u8 w a len cap zs) : Sl w (.slice a len cap) (zs.take len) ∧ (∀ x ∈ zs.take len, 0 ≤ x ∧ x < 256) := by
  obtain ⟨h1, h2, h3, h4, h5⟩ := came_parts h
  refine ⟨⟨a, cap, by rw [h1], by omega, h3, fun h0 => ?_⟩, fun x hx => by have := bounds_u8 (h5 x hx); omega⟩
  obtain ⟨g, off, e, hg, hc⟩ := h4 h0
  exact ⟨g, off, e, hg, rfl, fun j hj => hc j (by omega)⟩
theorem OwnB.row {w : World} {B : Nat} {v : Value} {l : List Int} (h : OwnB w B v l) : ∃ A c, v = .slice A l.length c ∧ Sl w (.slice A l.length c) l := by
  have hs := h.sl
  obtain ⟨A, c, e, _⟩ := h.sl
  exact ⟨A, c, e, by rw [← e]; exact hs⟩
end Go.Proofs.Ytnminpbnlcgblaa.Typ
