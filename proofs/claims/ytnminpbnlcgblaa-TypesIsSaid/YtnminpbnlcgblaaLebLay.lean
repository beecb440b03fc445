/- What the two functions that lay a number in bytes answer: the bytes that were handed in, and behind them the number's, in memory of the call's own. -/
import Derived.Test.YtnminpbnlcgblaaLebLen
import Derived.Laws.CopyOwn
import Derived.Laws.MakeOwn
import Derived.OwnWalk
import Derived.Deep.AppendLies
import Derived.WalkSpells
namespace Go.Proofs.Ytnminpbnlcgblaa.Leb
open Go.RowKit

/-- Bytes as the cells of a row. -/
def vb (l : List Int) : List Value := l.map (Value.int .u8)
theorem vb_length (l : List Int) : (vb l).length = l.length := by simp [vb]
theorem vb_one (l : List Int) : ∀ u ∈ vb l, u.oneCell' = true := by
  intro u hu
  obtain ⟨n, _, rfl⟩ := List.mem_map.1 hu
  rfl
theorem vb_append (a b : List Int) : vb (a ++ b) = vb a ++ vb b := by simp [vb]

/-- A slice of bytes at address A that reads as l and lies below block B. -/
def Byt (w : World) (B : Nat) (A : Option Addr) (l : List Int) : Prop :=
  0 < l.length → ∃ ad, A = some ad ∧ ad.block < B ∧ ∀ j u, (vb l)[j]? = some u → w.cell? (ad.add j) = some u

/-- A slice of bytes of the call's own, from block B on. -/
def Own (w : World) (B : Nat) (v : Value) (l : List Int) : Prop :=
  (∃ g c, v = .slice (some ⟨g, 0, none⟩) l.length c) ∧ w.ownsRow B 5 1 v l.length (vb l)

/-- How a call ends that hands back bytes of its own and turns nothing that was there. -/
def Laid (w : World) (l : List Int) (e : Ending) (w' : World) : Prop :=
  ∃ v, e = .returned v ∧ Own w' w.heap.size v l ∧ Below w.heap.size w w'

theorem byt_nil (w : World) (B : Nat) (A : Option Addr) : Byt w B A [] := fun h => absurd h (by simp)
theorem Byt.keep {w w' : World} {B : Nat} {A : Option Addr} {l : List Int} (h : Byt w B A l) (hb : Below B w w') : Byt w' B A l := fun hl => by
  obtain ⟨ad, e, hB, hc⟩ := h hl
  refine ⟨ad, e, hB, fun j u hu => ?_⟩
  rw [hb.cell (by rw [show (ad.add j).block = ad.block from by unfold Addr.add; split <;> rfl]; exact hB)]
  exact hc j u hu
theorem Byt.mono {w : World} {B B' : Nat} {A : Option Addr} {l : List Int} (h : Byt w B A l) (hB : B ≤ B') : Byt w B' A l := fun hl => by
  obtain ⟨ad, e, h1, hc⟩ := h hl
  exact ⟨ad, e, by omega, hc⟩

theorem byte_info : (Try.prog.info? 5).map (fun i => (i.zero, i.size, i.bytes)) = some (some (.int .u8 0), 1, 1) := by kernel_rfl
theorem byte_size : (Try.prog.info? 5).map (·.size) = some 1 := by kernel_rfl

/-- New room for k bytes. -/
def room (k : Nat) : Array Value := madeCells (Value.int .u8 0).cells k
theorem room_size (k : Nat) : (room k).size = k := by simp [room, madeCells]
theorem room_len (k : Nat) : (room k).toList.length = k := (Array.length_toList ..).trans (room_size k)

theorem run_room (l n : Nat) (hl : l ≤ 10000000) (hn : n ≤ 100) (W : World) :
    (Instr.makeSlice 22 (.int .i64 (l : Int)) (.int .i64 ((l : Int) + (n : Int)))).run Try.prog W = .ok (.slice (some ⟨W.heap.size, 0, none⟩) l (l + n)) (W.alloc (.cells (room (l + n)) 5)) := by
  obtain ⟨i0, hi, hz0, hz1, hz2⟩ := info_parts byte_info
  have h := run_make (P := Try.prog) W 22 5 i0 (.int .u8 0) Try.underlying22 hi hz0 .i64 .i64 l (l + n) (by omega) (by omega) (by rw [hz2]; omega) (by omega)
  rw [hz1, show ((l : Int) + (n : Int)).toNat = l + n from by omega, Nat.mul_one, Int.toNat_natCast] at h
  exact h

set_option maxHeartbeats 400000 in
set_option maxRecDepth 100000 in
theorem grown_any (A : Option Addr) (c n : Nat) (l : List Int) (w : World) (hA : Byt w w.heap.size A l) (hl : l.length ≤ 10000000) (hn : n ≤ 100) :
    Calls Try.prog 47 #[.slice A l.length c, .int .i64 (n : Int)] w (Laid w l) := by
  have hmk := run_room l.length n hl hn
  have HA := Lib.hid hA
  clear hA
  have hvl := vb_length l
  go_enter Try.func47, Try.ntmps47
  go_wp2_with (with_reducible refine wpList_copy_splice rfl (.tmp 13) (.tmp 14) 22 22 rfl 5 Try.underlying22 byte_size (some ⟨w.heap.size, 0, none⟩) A l.length (l.length + n) l.length c rfl rfl w.heap.size 0 (room (l.length + n)).toList 5 ?hg (vb l) ?hn ?hpos ?hfit (vb_one l) w.heap.size w ?hb (Nat.le_refl _) ?_)
  case hg => rw [Array.toArray_toList]; exact heap_alloc_new w _
  case hn => rw [hvl]; exact (Nat.min_self _).symm
  case hpos =>
    intro h0
    obtain ⟨ad, e, hb, hc⟩ := HA.out h0
    refine ⟨ad, e, fun j u hu => ?_⟩
    rw [World.cell?_alloc_lt _ _ _ (by rw [show (ad.add j).block = ad.block from by unfold Addr.add; split <;> rfl]; exact hb)]
    exact hc j u hu
  case hfit => rw [hvl, room_len]; omega
  case hb => exact (Below.refl _ _).alloc (Nat.le_refl _) _
  intro w2 HG hB
  go_wp2
  go_ret
  refine ⟨_, rfl, ⟨⟨_, _, rfl⟩, by rw [hvl, Nat.mul_one], .inr ⟨_, _, _, rfl, Nat.le_refl _, HG.out, by omega, by simp only [maxLen]; omega, ?_, ?_⟩⟩, hB⟩
  · rw [List.size_toArray, length_splice _ _ _ (by rw [hvl, room_len]; omega), room_len, Nat.mul_one]
  · rw [Nat.mul_one]
    simp only [splice, List.take_zero, List.nil_append]
    rw [List.take_append_of_le_length (by rw [hvl]; exact Nat.le_refl _), List.take_of_length_le (by rw [hvl]; exact Nat.le_refl _)]

/-- A new byte behind bytes of the call's own. -/
theorem Own.step {w w1 : World} {B : Nat} {v v' : Value} {l : List Int} {x : Int} (_h : Own w B v l) (ho : w1.ownsRow B 5 1 v' (l.length + 1) (vb l ++ [.int .u8 x])) (hn : v' = .slice none 0 0 ↔ v = .slice none 0 0 ∧ 1 = 0) : Own w1 B v' (l ++ [x]) := by
  have ho2 : w1.ownsRow B 5 1 v' (l ++ [x]).length (vb (l ++ [x])) := by simpa [vb] using ho
  refine ⟨?_, ho2⟩
  rcases ho2.2 with ⟨e, _⟩ | ⟨g, c, cur, e, _⟩
  · exact absurd (hn.1 e).2 (by omega)
  · exact ⟨g, c, e⟩

theorem Own.block {w : World} {B : Nat} {v : Value} {l : List Int} (h : Own w B v l) : ∀ k, v.ownBlock = some k → B ≤ k := fun k hk => (h.2.lt k hk).1
theorem Own.alloc {w : World} {B : Nat} {v : Value} {l : List Int} (h : Own w B v l) (o : Obj) : Own (w.alloc o) B v l := ⟨h.1, h.2.alloc o⟩
theorem Own.mono {w : World} {B B' : Nat} {v : Value} {l : List Int} (h : Own w B v l) (hb : B' ≤ B) : Own w B' v l := by
  refine ⟨h.1, h.2.1, ?_⟩
  rcases h.2.2 with e | ⟨g, c, cur, e, hB, r⟩
  · exact .inl e
  · exact .inr ⟨g, c, cur, e, by omega, r⟩
theorem Own.byt {w : World} {B : Nat} {A : Option Addr} {n c : Nat} {l : List Int} (h : Own w B (.slice A n c) l) : Byt w w.heap.size A l := by
  intro hl
  obtain ⟨g, c', e⟩ := h.1
  have hA : A = some ⟨g, 0, none⟩ := by injection e
  subst hA
  refine ⟨_, rfl, (h.2.lt g rfl).2, fun j u hu => h.2.cells (g := g) rfl j u hu⟩
theorem one_new (w : World) (v : Value) : ∀ j u, [v][j]? = some u → (w.alloc (.cells #[v] 5)).cell? ((⟨w.heap.size, 0, none⟩ : Addr).add j) = some u := by
  intro j u hu
  rcases j with _ | j
  · simp at hu
    subst hu
    simp [Addr.add]
  · simp at hu
/-- 'append(s, y)' on bytes of the call's own. -/
theorem wp_byte {ops : Array Oper} {rest : List Oper} {o : Oper} {a : Act} {Q : Exit → Act → World → Prop} (w : World) (hgd : o.guard = none) (s x : Operand)
    (ho : o.op = .call { callee := .builtin .append, args := #[s, x], argTypes := #[22, 22] }) (B : Nat) (v : Value) (done : List Int) (y : Int) (hs : a.eval s = v) (hown : Own w B v done)
    (hx : a.eval x = .slice (some ⟨w.heap.size, 0, none⟩) 1 1) (hlen : done.length ≤ 10000000) (hB : B ≤ w.heap.size)
    (h : ∀ v' w', Own w' B v' (done ++ [y]) → Below B w w' → wpList Try.prog ops Q rest (a.put o.dst v') w') : wpList Try.prog ops Q (o :: rest) a (w.alloc (.cells #[.int .u8 y] 5)) := by
  obtain ⟨i0, hi, hz0, hz1, hz2⟩ := info_parts byte_info
  refine wpList_append_own _ hgd s x 22 ho B 5 i0 (.int .u8 0) 1 1 Try.underlying22 hi hz0 hz1 hz2 rfl (by decide) v _ _ hs (hown.2.alloc _) ⟨w.heap.size, 0, none⟩ 1 1 [.int .u8 y] hx rfl (one_new w _) (by intro u hu; simp at hu; subst hu; rfl) (by simp only [maxLen]; omega) (by omega) (by simp; omega) ?_
  intro v' w' ho' hg hn
  exact h v' w' (hown.step ho' hn) (((Below.refl _ _).alloc hB _).grown hg (by simp; omega) hown.block)
end Go.Proofs.Ytnminpbnlcgblaa.Leb
