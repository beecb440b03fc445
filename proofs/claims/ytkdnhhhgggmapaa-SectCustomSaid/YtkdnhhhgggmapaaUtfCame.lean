/- What came in, as the statements of layer 3 take it: bytes, whole numbers. -/
import Derived.Test.YtkdnhhhgggmapaaUtfAwake
import Derived.Laws.Bits128
namespace Go.Proofs.Ytkdnhhhgggmapaa.Utf
open Go.RowKit
set_option maxRecDepth 100000
set_option maxHeartbeats 1000000

theorem cell_spot {w : World} {x : Addr} {v : Value} (h : w.cell? x = some v) : x.spot = none := by
  unfold World.cell? at h
  split at h
  · split at h
    · cases h
    · rename_i hs
      cases hx : x.spot with
      | none => rfl
      | some _ => rw [hx] at hs; simp at hs
  · cases h
theorem add_plain (b o j : Nat) : (⟨b, o, none⟩ : Addr).add j = ⟨b, o + j, none⟩ := by
  unfold Addr.add
  split
  · rename_i h; subst h; rfl
  · rfl
theorem take_getD (zs : List Int) (n j : Nat) (h : j < n) : (zs.take n).getD j 0 = zs.getD j 0 := by
  rw [List.getD_eq_getElem?_getD, List.getD_eq_getElem?_getD, List.getElem?_take, if_pos h]
theorem came_parts {k : IntKind} {w : World} {a : Option Addr} {len cap : Nat} {zs : List Int} (h : Leb.Came k w a len cap zs) :
    (zs.take len).length = len ∧ len ≤ cap ∧ cap ≤ 9223372036854775807 ∧ (zs.take len ≠ [] → ∃ g off, a = some ⟨g, off, none⟩ ∧ g < w.heap.size ∧ ∀ j, j < len → w.cell? ⟨g, off + j, none⟩ = some (.int k ((zs.take len).getD j 0))) ∧ ∀ n ∈ zs.take len, (Lit.int k n).wf = true := by
  rcases h with ⟨rfl, rfl, rfl, rfl⟩ | ⟨x, rfl, hl, hm, hz, hc, hw⟩
  · exact ⟨rfl, Nat.le_refl _, by omega, fun h => absurd rfl h, by simp⟩
  · have hlen : (zs.take len).length = len := by rw [List.length_take]; omega
    unfold maxLen at hm
    refine ⟨hlen, hl, by omega, fun h0 => ?_, fun n hn => hw n (List.mem_of_mem_take hn)⟩
    have hpos : 0 < len := by
      rcases Nat.eq_zero_or_pos len with e | e
      · rw [e] at h0; simp at h0
      · exact e
    have h1 := hc 0 (by omega)
    rw [show x.add 0 = x from by unfold Addr.add; rw [if_pos rfl]] at h1
    obtain ⟨g, off, sp⟩ := x
    obtain rfl : sp = none := cell_spot h1
    refine ⟨g, off, rfl, World.block_lt_of_cell? w _ h1, fun j hj => ?_⟩
    rw [← add_plain, take_getD zs len j hj]
    exact hc j (by omega)
theorem came_sl {w : World} {a : Option Addr} {len cap : Nat} {zs : List Int} (h : Leb.Came .u8 w a len cap zs) : Sl w (.slice a len cap) (zs.take len) ∧ (∀ x ∈ zs.take len, 0 ≤ x ∧ x < 256) := by
  obtain ⟨h1, h2, h3, h4, h5⟩ := came_parts h
  refine ⟨⟨a, cap, by rw [h1], by omega, h3, fun h0 => ?_⟩, fun x hx => by have := bounds_u8 (h5 x hx); omega⟩
  obtain ⟨g, off, e, hg, hc⟩ := h4 h0
  exact ⟨g, off, e, hg, rfl, fun j hj => hc j (by omega)⟩
theorem came_slI {w : World} {a : Option Addr} {len cap : Nat} {zs : List Int} (h : Leb.Came .i64 w a len cap zs) : SlI w (.slice a len cap) (zs.take len) := by
  obtain ⟨h1, h2, h3, h4, h5⟩ := came_parts h
  refine ⟨a, cap, by rw [h1], by omega, h3, fun h0 => ?_⟩
  obtain ⟨g, off, e, hg, hc⟩ := h4 h0
  exact ⟨g, off, e, hg, fun j hj => hc j (by omega)⟩
theorem OwnB.row {w : World} {B : Nat} {v : Value} {l : List Int} (h : OwnB w B v l) : ∃ A c, v = .slice A l.length c ∧ Sl w (.slice A l.length c) l := by
  have hs := h.sl
  obtain ⟨A, c, e, _⟩ := h.sl
  exact ⟨A, c, e, by rw [← e]; exact hs⟩
theorem OwnI.row {w : World} {B : Nat} {v : Value} {l : List Int} (h : OwnI w B v l) : ∃ A c, v = .slice A l.length c ∧ SlI w (.slice A l.length c) l := by
  have hs := h.sl
  obtain ⟨A, c, e, _⟩ := h.sl
  exact ⟨A, c, e, by rw [← e]; exact hs⟩
/-- One new number. -/
theorem one_slI (w : World) (x : Int) : SlI (w.alloc (.cells #[.int .i64 x] 3)) (.slice (some ⟨w.heap.size, 0, none⟩) 1 1) [x] := by
  refine ⟨_, 1, rfl, Nat.le_refl _, by omega, fun _ => ⟨w.heap.size, 0, rfl, by simp, fun j hj => ?_⟩⟩
  obtain rfl : j = 0 := by simp at hj; omega
  simp
theorem i64_and21 (n : Int) : bits .and .i64 n 2097151 = n % 2097152 := by
  have h : (BitVec.ofInt 64 2097151).toNat = 2 ^ 21 - 1 := by decide
  have key : (BitVec.ofInt 64 n &&& BitVec.ofInt 64 2097151).toNat = (n % ((2 ^ 64 : Nat) : Int)).toNat % 2 ^ 21 := by
    rw [BitVec.toNat_and, BitVec.toNat_ofInt, h, Nat.and_two_pow_sub_one_eq_mod]
  show IntKind.i64.wrap ((BitVec.ofInt 64 n &&& BitVec.ofInt 64 2097151).toNat : Nat) = n % 2097152
  rw [key, IntKind.wrap_i64]
  omega
theorem i64_and16 (n : Int) : bits .and .i64 n 65535 = n % 65536 := by
  have h : (BitVec.ofInt 64 65535).toNat = 2 ^ 16 - 1 := by decide
  have key : (BitVec.ofInt 64 n &&& BitVec.ofInt 64 65535).toNat = (n % ((2 ^ 64 : Nat) : Int)).toNat % 2 ^ 16 := by
    rw [BitVec.toNat_and, BitVec.toNat_ofInt, h, Nat.and_two_pow_sub_one_eq_mod]
  show IntKind.i64.wrap ((BitVec.ofInt 64 n &&& BitVec.ofInt 64 65535).toNat : Nat) = n % 65536
  rw [key, IntKind.wrap_i64]
  omega
end Go.Proofs.Ytkdnhhhgggmapaa.Utf
