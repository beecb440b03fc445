/- LebOne. -/
import Derived.Test.YtffegkjlgeblbaaGreatDoorChecked
import Derived.WalkKit
import Derived.OpenShut
import Derived.Lib.Hide
import Derived.Laws.CopyOwn
import Derived.Laws.MakeOwn
import Derived.OwnWalk
import Derived.Deep.AppendLies
import Derived.WalkSpells
import Derived.BigQuiet
import Derived.Laws.BitsAllLaws
import Derived.OneCell
import Derived.Laws.Bits128
/- Several parts in one text. -/
/- Plain facts on numbers written in bytes of seven digits of two: their lengths, their bytes, how they are read back. No Go in sight. -/
namespace Go.Proofs.YtffegkjlgeblbaaGreatDoor.Leb

def lenU (v : Nat) : Nat := if _h : v < 128 then 1 else lenU (v / 128) + 1
termination_by v
decreasing_by omega

def lenS (v : Int) : Nat := if _h : -64 ≤ v ∧ v ≤ 63 then 1 else lenS (v / 128) + 1
termination_by v.natAbs
decreasing_by omega

theorem lenU_small {v : Nat} (h : v < 128) : lenU v = 1 := by rw [lenU, dif_pos h]
theorem lenU_great {v : Nat} (h : 128 ≤ v) : lenU v = lenU (v / 128) + 1 := by rw [lenU, dif_neg (by omega)]
theorem lenS_small {v : Int} (h : -64 ≤ v ∧ v ≤ 63) : lenS v = 1 := by rw [lenS, dif_pos h]
theorem lenS_great {v : Int} (h : ¬ (-64 ≤ v ∧ v ≤ 63)) : lenS v = lenS (v / 128) + 1 := by rw [lenS, dif_neg h]

theorem lenU_pos (v : Nat) : 1 ≤ lenU v := by rw [lenU]; split <;> omega
theorem lenS_pos (v : Int) : 1 ≤ lenS v := by rw [lenS]; split <;> omega

theorem lenU_le : ∀ (k : Nat) (v : Nat), v < 128 ^ (k + 1) → lenU v ≤ k + 1
  | 0, v, h => by rw [lenU_small (by simpa using h)]; omega
  | k + 1, v, h => by
    by_cases hs : v < 128
    · rw [lenU_small hs]; omega
    · rw [lenU_great (by omega)]
      have := lenU_le k (v / 128) (by rw [Nat.pow_succ] at h; exact Nat.div_lt_of_lt_mul (by rw [Nat.mul_comm]; exact h))
      omega

theorem lenS_le : ∀ (k : Nat) (v : Int), -(64 * 128 ^ k) ≤ v → v < 64 * 128 ^ k → lenS v ≤ k + 1
  | 0, v, h1, h2 => by rw [lenS_small (by simp at h1 h2; omega)]; omega
  | k + 1, v, h1, h2 => by
    by_cases hs : -64 ≤ v ∧ v ≤ 63
    · rw [lenS_small hs]; omega
    · rw [lenS_great hs]
      rw [Int.pow_succ] at h1 h2
      have := lenS_le k (v / 128)
      generalize (128 : Int) ^ k = p at h1 h2 this
      have := this (by omega) (by omega)
      omega

theorem lenU_ten {v : Nat} (h : v < 18446744073709551616) : lenU v ≤ 10 := lenU_le 9 v (by omega)
theorem lenS_ten {v : Int} (h1 : -9223372036854775808 ≤ v) (h2 : v ≤ 9223372036854775807) : lenS v ≤ 10 := lenS_le 9 v (by omega) (by omega)

theorem lenU_mono : ∀ (n a b : Nat), b ≤ n → a ≤ b → lenU a ≤ lenU b
  | 0, a, b, hn, h => by obtain rfl : a = b := by omega
                         exact Nat.le_refl _
  | n + 1, a, b, hn, h => by
    by_cases ha : a < 128
    · rw [lenU_small ha]; exact lenU_pos b
    · rw [lenU_great (v := a) (by omega), lenU_great (v := b) (by omega)]
      have := lenU_mono n (a / 128) (b / 128) (by omega) (by omega)
      omega

theorem lenS_neg : ∀ (n : Nat) (s : Int), s.natAbs ≤ n → lenS (-1 - s) = lenS s
  | 0, s, h => by rw [lenS_small (v := s) (by omega), lenS_small (by omega)]
  | n + 1, s, h => by
    by_cases hs : -64 ≤ s ∧ s ≤ 63
    · rw [lenS_small hs, lenS_small (by omega)]
    · rw [lenS_great hs, lenS_great (by omega), show (-1 - s) / 128 = -1 - s / 128 from by omega]
      by_cases hz : s.natAbs = n + 1
      · rw [lenS_neg n (s / 128) (by omega)]
      · rw [lenS_neg n (s / 128) (by omega)]

theorem lenS_lenU : ∀ (n s : Nat), s ≤ n → lenU s ≤ lenS s ∧ lenS s ≤ lenU s + 1
  | 0, s, h => by obtain rfl : s = 0 := by omega
                  rw [lenU_small (by omega), lenS_small (by omega)]; omega
  | n + 1, s, h => by
    by_cases h1 : s < 64
    · rw [lenU_small (by omega), lenS_small (by omega)]; omega
    · by_cases h2 : s < 128
      · rw [lenU_small h2, lenS_great (by omega), lenS_small (by omega)]; omega
      · rw [lenU_great (by omega), lenS_great (by omega)]
        have := lenS_lenU n (s / 128) (by omega)
        rw [show ((s : Int) / 128) = ((s / 128 : Nat) : Int) from by omega]
        omega

def uB (v : Nat) : List Int := if _h : v < 128 then [(v : Int)] else ((v : Int) % 128 + 128) :: uB (v / 128)
termination_by v
decreasing_by omega

def sB (v : Int) : List Int := if _h : -64 ≤ v ∧ v ≤ 63 then [v % 128] else (v % 128 + 128) :: sB (v / 128)
termination_by v.natAbs
decreasing_by omega

theorem uB_small {v : Nat} (h : v < 128) : uB v = [(v : Int)] := by rw [uB, dif_pos h]
theorem uB_great {v : Nat} (h : 128 ≤ v) : uB v = ((v : Int) % 128 + 128) :: uB (v / 128) := by rw [uB, dif_neg (by omega)]
theorem sB_small {v : Int} (h : -64 ≤ v ∧ v ≤ 63) : sB v = [v % 128] := by rw [sB, dif_pos h]
theorem sB_great {v : Int} (h : ¬ (-64 ≤ v ∧ v ≤ 63)) : sB v = (v % 128 + 128) :: sB (v / 128) := by rw [sB, dif_neg h]

theorem uB_length : ∀ (n v : Nat), v ≤ n → (uB v).length = lenU v
  | 0, v, h => by rw [uB_small (by omega), lenU_small (by omega)]; rfl
  | n + 1, v, h => by
    by_cases hs : v < 128
    · rw [uB_small hs, lenU_small hs]; rfl
    · rw [uB_great (by omega), lenU_great (by omega), List.length_cons, uB_length n (v / 128) (by omega)]
theorem uB_len (v : Nat) : (uB v).length = lenU v := uB_length v v (Nat.le_refl _)

theorem sB_length : ∀ (n : Nat) (v : Int), v.natAbs ≤ n → (sB v).length = lenS v
  | 0, v, h => by rw [sB_small (by omega), lenS_small (by omega)]; rfl
  | n + 1, v, h => by
    by_cases hs : -64 ≤ v ∧ v ≤ 63
    · rw [sB_small hs, lenS_small hs]; rfl
    · rw [sB_great hs, lenS_great hs, List.length_cons, sB_length n (v / 128) (by omega)]
theorem sB_len (v : Int) : (sB v).length = lenS v := sB_length _ v (Nat.le_refl _)

theorem uB_one : ∀ (n v : Nat), v ≤ n → ∀ x ∈ uB v, 0 ≤ x ∧ x ≤ 255
  | 0, v, h => by rw [uB_small (by omega)]; simp; omega
  | n + 1, v, h => by
    by_cases hs : v < 128
    · rw [uB_small hs]; simp; omega
    · rw [uB_great (by omega)]
      intro x hx
      rcases List.mem_cons.1 hx with rfl | hx
      · omega
      · exact uB_one n (v / 128) (by omega) x hx
theorem sB_one : ∀ (n : Nat) (v : Int), v.natAbs ≤ n → ∀ x ∈ sB v, 0 ≤ x ∧ x ≤ 255
  | 0, v, h => by rw [sB_small (by omega)]; simp; omega
  | n + 1, v, h => by
    by_cases hs : -64 ≤ v ∧ v ≤ 63
    · rw [sB_small hs]; simp; omega
    · rw [sB_great hs]
      intro x hx
      rcases List.mem_cons.1 hx with rfl | hx
      · omega
      · exact sB_one n (v / 128) (by omega) x hx

end Go.Proofs.YtffegkjlgeblbaaGreatDoor.Leb

/- What the two functions that tell a number's length in bytes answer, for every number, and that they leave the world alone. -/
namespace Go.Proofs.YtffegkjlgeblbaaGreatDoor.Leb
open Go.RowKit

theorem ret_int {k : IntKind} {a b : Int} (h : a = b) : Ending.returned (.int k a) = .returned (.int k b) := by rw [h]

theorem ret_bool {a b : Bool} (h : a = b) : Ending.returned (.bool a) = .returned (.bool b) := by rw [h]

set_option maxHeartbeats 400000 in
set_option maxRecDepth 100000 in
theorem LenU_any (v : Nat) (w : World) (hv : v < 18446744073709551616) :
    Calls Tryz.prog 115 #[.int .u64 (v : Int)] w fun e w' => e = .returned (.int .i64 (lenU v : Int)) ∧ w = w' := by
  have hten := lenU_ten hv
  have hpos := lenU_pos v
  clear hv
  go_enter Tryz.func115, Tryz.ntmps115
  go_wp2
  go_loop [0, 3] (fun x n => ∃ u k : Nat, x = .int .u64 (u : Int) ∧ n = .int .i64 (k : Int) ∧ 1 ≤ k ∧ u ≤ v ∧ lenU u + k = lenU v + 1) (fun x _ => (intOf x).toNat)
  case atStart => exact ⟨v, 1, rfl, rfl, by omega, by omega, by omega⟩
  case round =>
    obtain ⟨u, k, rfl, rfl, hk, hu, hlen⟩ := hrel
    have H := Lib.hid hlen
    have hup := lenU_pos u
    have hk2 : k ≤ 10 := by omega
    clear hlen
    by_cases hlt : u < 128
    · go_wp2
      go_ret
      exact ⟨ret_int (by have := H.out; rw [lenU_small hlt] at this; omega), rfl⟩
    · go_wp2
      go_round
      case rel => exact ⟨u / 128, k + 1, by go_num, by go_num, by omega, by omega, by have := H.out; rw [lenU_great (by omega)] at this; omega⟩
      case measure => simp [intOf]; omega

def last (v : Int) : Bool := decide (-64 ≤ v ∧ v ≤ 63)
theorem last_yes {v : Int} (h : -64 ≤ v ∧ v ≤ 63) : last v = true := by simpa [last] using h
theorem last_no {v : Int} (h : ¬ (-64 ≤ v ∧ v ≤ 63)) : last v = false := by simpa [last] using h

set_option maxHeartbeats 400000 in
set_option maxRecDepth 100000 in
theorem last_any (v : Int) (w : World) :
    Calls Tryz.prog 294 #[.int .i64 v] w fun e w' => e = .returned (.bool (last v)) ∧ w = w' := by
  by_cases h1 : -64 ≤ v
  · by_cases h2 : v ≤ 63
    · have hl := last_yes ⟨h1, h2⟩
      go_enter Tryz.func294, Tryz.ntmps294
      go_wp2
      go_ret
      first | exact ⟨ret_bool hl.symm, rfl⟩ | exact ⟨rfl, rfl⟩
    · have hl := last_no (v := v) (by omega)
      go_enter Tryz.func294, Tryz.ntmps294
      go_wp2
      go_ret
      first | exact ⟨ret_bool hl.symm, rfl⟩ | exact ⟨rfl, rfl⟩
  · have hl := last_no (v := v) (by omega)
    go_enter Tryz.func294, Tryz.ntmps294
    go_wp2
    go_ret
    first | exact ⟨ret_bool hl.symm, rfl⟩ | exact ⟨rfl, rfl⟩

set_option maxHeartbeats 400000 in
set_option maxRecDepth 100000 in
theorem LenS_any (v : Int) (w : World) (h1 : -9223372036854775808 ≤ v) (h2 : v ≤ 9223372036854775807) :
    Calls Tryz.prog 293 #[.int .i64 v] w fun e w' => e = .returned (.int .i64 (lenS v : Int)) ∧ w = w' := by
  have hten := lenS_ten h1 h2
  have hpos := lenS_pos v
  clear h1 h2
  go_enter Tryz.func293, Tryz.ntmps293
  go_wp2
  go_loop [0, 3] (fun x n => ∃ (u : Int) (k : Nat), x = .int .i64 u ∧ n = .int .i64 (k : Int) ∧ 1 ≤ k ∧ lenS u + k = lenS v + 1) (fun x _ => (intOf x).natAbs)
  case atStart => exact ⟨v, 1, rfl, rfl, by omega, by omega⟩
  case round =>
    obtain ⟨u, k, rfl, rfl, hk, hlen⟩ := hrel
    have H := Lib.hid hlen
    have hup := lenS_pos u
    have hk2 : k ≤ 10 := by omega
    clear hlen
    by_cases hlt : -64 ≤ u ∧ u ≤ 63
    · have hl := last_yes hlt
      go_wp2_with (go_at_call 294; refine (last_any _ _).mono ?_; rintro e w' ⟨rfl, rfl⟩)
      go_ret
      exact ⟨ret_int (by have := H.out; rw [lenS_small hlt] at this; omega), rfl⟩
    · have hl := last_no hlt
      go_wp2_with (go_at_call 294; refine (last_any _ _).mono ?_; rintro e w' ⟨rfl, rfl⟩)
      go_round
      case rel => exact ⟨u / 128, k + 1, by go_num, by go_num, by omega, by have := H.out; rw [lenS_great hlt] at this; omega⟩
      case measure => simp [intOf]; omega
end Go.Proofs.YtffegkjlgeblbaaGreatDoor.Leb

/- What the two functions that lay a number in bytes answer: the bytes that were handed in, and behind them the number's, in memory of the call's own. -/
namespace Go.Proofs.YtffegkjlgeblbaaGreatDoor.Leb
open Go.RowKit

def vb (l : List Int) : List Value := l.map (Value.int .u8)
theorem vb_length (l : List Int) : (vb l).length = l.length := by simp [vb]
theorem vb_one (l : List Int) : ∀ u ∈ vb l, u.oneCell' = true := by
  intro u hu
  obtain ⟨n, _, rfl⟩ := List.mem_map.1 hu
  rfl
theorem vb_append (a b : List Int) : vb (a ++ b) = vb a ++ vb b := by simp [vb]

def Byt (w : World) (B : Nat) (A : Option Addr) (l : List Int) : Prop :=
  0 < l.length → ∃ ad, A = some ad ∧ ad.block < B ∧ ∀ j u, (vb l)[j]? = some u → w.cell? (ad.add j) = some u

def Own (w : World) (B : Nat) (v : Value) (l : List Int) : Prop :=
  (∃ g c, v = .slice (some ⟨g, 0, none⟩) l.length c) ∧ w.ownsRow B 5 1 v l.length (vb l)

def Laid (w : World) (l : List Int) (e : Ending) (w' : World) : Prop :=
  ∃ v, e = .returned v ∧ Own w' w.heap.size v l ∧ Below w.heap.size w w'

theorem byt_nil (w : World) (B : Nat) (A : Option Addr) : Byt w B A [] := fun h => absurd h (by simp)
theorem Byt.keep {w w' : World} {B : Nat} {A : Option Addr} {l : List Int} (h : Byt w B A l) (hb : Below B w w') : Byt w' B A l := fun hl => by
  obtain ⟨ad, e, hB, hc⟩ := h hl
  refine ⟨ad, e, hB, fun j u hu => ?_⟩
  rw [hb.cell (by rw [show (ad.add j).block = ad.block from by unfold Addr.add; split <;> rfl]; exact hB)]
  exact hc j u hu
theorem Byt.mono {w : World} {B B' : Nat} {A : Option Addr} {l : List Int} (h : Byt w B A l) (hB : B ≤ B') : Byt w B' A l := fun hl => by
  obtain ⟨ad, e, h1, hc⟩ := h hl
  exact ⟨ad, e, by omega, hc⟩

theorem byte_info : (Tryz.prog.info? 5).map (fun i => (i.zero, i.size, i.bytes)) = some (some (.int .u8 0), 1, 1) := by kernel_rfl
theorem byte_size : (Tryz.prog.info? 5).map (·.size) = some 1 := by kernel_rfl

def room (k : Nat) : Array Value := madeCells (Value.int .u8 0).cells k
theorem room_size (k : Nat) : (room k).size = k := by simp [room, madeCells]
theorem room_len (k : Nat) : (room k).toList.length = k := (Array.length_toList ..).trans (room_size k)

theorem run_room (l n : Nat) (hl : l ≤ 10000000) (hn : n ≤ 100) (W : World) :
    (Instr.makeSlice 22 (.int .i64 (l : Int)) (.int .i64 ((l : Int) + (n : Int)))).run Tryz.prog W = .ok (.slice (some ⟨W.heap.size, 0, none⟩) l (l + n)) (W.alloc (.cells (room (l + n)) 5)) := by
  obtain ⟨i0, hi, hz0, hz1, hz2⟩ := info_parts byte_info
  have h := run_make (P := Tryz.prog) W 22 5 i0 (.int .u8 0) Tryz.underlying22 hi hz0 .i64 .i64 l (l + n) (by omega) (by omega) (by rw [hz2]; omega) (by omega)
  rw [hz1, show ((l : Int) + (n : Int)).toNat = l + n from by omega, Nat.mul_one, Int.toNat_natCast] at h
  exact h

set_option maxHeartbeats 400000 in
set_option maxRecDepth 100000 in
theorem grown_any (A : Option Addr) (c n : Nat) (l : List Int) (w : World) (hA : Byt w w.heap.size A l) (hl : l.length ≤ 10000000) (hn : n ≤ 100) :
    Calls Tryz.prog 116 #[.slice A l.length c, .int .i64 (n : Int)] w (Laid w l) := by
  have hmk := run_room l.length n hl hn
  have HA := Lib.hid hA
  clear hA
  have hvl := vb_length l
  go_enter Tryz.func116, Tryz.ntmps116
  go_wp2_with (with_reducible refine wpList_copy_splice rfl (.tmp 13) (.tmp 14) 22 22 rfl 5 Tryz.underlying22 byte_size (some ⟨w.heap.size, 0, none⟩) A l.length (l.length + n) l.length c rfl rfl w.heap.size 0 (room (l.length + n)).toList 5 ?hg (vb l) ?hn ?hpos ?hfit (vb_one l) w.heap.size w ?hb (Nat.le_refl _) ?_)
  case hg => rw [Array.toArray_toList]; exact heap_alloc_new w _
  case hn => rw [hvl]; exact (Nat.min_self _).symm
  case hpos =>
    intro h0
    obtain ⟨ad, e, hb, hc⟩ := HA.out h0
    refine ⟨ad, e, fun j u hu => ?_⟩
    rw [World.cell?_alloc_lt _ _ _ (by rw [show (ad.add j).block = ad.block from by unfold Addr.add; split <;> rfl]; exact hb)]
    exact hc j u hu
  case hfit => rw [hvl, room_len]; omega
  case hb => exact (Below.refl _ _).alloc (Nat.le_refl _) _
  intro w2 HG hB
  go_wp2
  go_ret
  refine ⟨_, rfl, ⟨⟨_, _, rfl⟩, by rw [hvl, Nat.mul_one], .inr ⟨_, _, _, rfl, Nat.le_refl _, HG.out, by omega, by simp only [maxLen]; omega, ?_, ?_⟩⟩, hB⟩
  · rw [List.size_toArray, length_splice _ _ _ (by rw [hvl, room_len]; omega), room_len, Nat.mul_one]
  · rw [Nat.mul_one]
    simp only [splice, List.take_zero, List.nil_append]
    rw [List.take_append_of_le_length (by rw [hvl]; exact Nat.le_refl _), List.take_of_length_le (by rw [hvl]; exact Nat.le_refl _)]

theorem Own.step {w w1 : World} {B : Nat} {v v' : Value} {l : List Int} {x : Int} (_h : Own w B v l) (ho : w1.ownsRow B 5 1 v' (l.length + 1) (vb l ++ [.int .u8 x])) (hn : v' = .slice none 0 0 ↔ v = .slice none 0 0 ∧ 1 = 0) : Own w1 B v' (l ++ [x]) := by
  have ho2 : w1.ownsRow B 5 1 v' (l ++ [x]).length (vb (l ++ [x])) := by simpa [vb] using ho
  refine ⟨?_, ho2⟩
  rcases ho2.2 with ⟨e, _⟩ | ⟨g, c, cur, e, _⟩
  · exact absurd (hn.1 e).2 (by omega)
  · exact ⟨g, c, e⟩

theorem Own.block {w : World} {B : Nat} {v : Value} {l : List Int} (h : Own w B v l) : ∀ k, v.ownBlock = some k → B ≤ k := fun k hk => (h.2.lt k hk).1
theorem Own.byt {w : World} {B : Nat} {A : Option Addr} {n c : Nat} {l : List Int} (h : Own w B (.slice A n c) l) : Byt w w.heap.size A l := by
  intro hl
  obtain ⟨g, c', e⟩ := h.1
  have hA : A = some ⟨g, 0, none⟩ := by injection e
  subst hA
  refine ⟨_, rfl, (h.2.lt g rfl).2, fun j u hu => h.2.cells (g := g) rfl j u hu⟩
theorem one_new (w : World) (v : Value) : ∀ j u, [v][j]? = some u → (w.alloc (.cells #[v] 5)).cell? ((⟨w.heap.size, 0, none⟩ : Addr).add j) = some u := by
  intro j u hu
  rcases j with _ | j
  · simp at hu
    subst hu
    simp [Addr.add]
  · simp at hu
theorem wp_byte {ops : Array Oper} {rest : List Oper} {o : Oper} {a : Act} {Q : Exit → Act → World → Prop} (w : World) (hgd : o.guard = none) (s x : Operand)
    (ho : o.op = .call { callee := .builtin .append, args := #[s, x], argTypes := #[22, 22] }) (B : Nat) (v : Value) (done : List Int) (y : Int) (hs : a.eval s = v) (hown : Own w B v done)
    (hx : a.eval x = .slice (some ⟨w.heap.size, 0, none⟩) 1 1) (hlen : done.length ≤ 10000000) (hB : B ≤ w.heap.size)
    (h : ∀ v' w', Own w' B v' (done ++ [y]) → Below B w w' → wpList Tryz.prog ops Q rest (a.put o.dst v') w') : wpList Tryz.prog ops Q (o :: rest) a (w.alloc (.cells #[.int .u8 y] 5)) := by
  obtain ⟨i0, hi, hz0, hz1, hz2⟩ := info_parts byte_info
  refine wpList_append_own _ hgd s x 22 ho B 5 i0 (.int .u8 0) 1 1 Tryz.underlying22 hi hz0 hz1 hz2 rfl (by decide) v _ _ hs (hown.2.alloc _) ⟨w.heap.size, 0, none⟩ 1 1 [.int .u8 y] hx rfl (one_new w _) (by intro u hu; simp at hu; subst hu; rfl) (by simp only [maxLen]; omega) (by omega) (by simp; omega) ?_
  intro v' w' ho' hg hn
  exact h v' w' (hown.step ho' hn) (((Below.refl _ _).alloc hB _).grown hg (by simp; omega) hown.block)
end Go.Proofs.YtffegkjlgeblbaaGreatDoor.Leb

/- The small functions that reading a number asks: whether the last byte fits, and how the sign goes on upwards; and the closure that takes the bytes. -/
namespace Go.Proofs.YtffegkjlgeblbaaGreatDoor.Leb
open Go.RowKit

def fitU (c : Int) (d : Nat) : Bool := decide (c < 2 ^ d)
def fitS (c : Int) (d : Nat) : Bool := decide (c < 2 ^ (d - 1)) || decide (128 - 2 ^ (d - 1) ≤ c)

theorem seven {Q : Nat → Prop} (h1 : Q 1) (h2 : Q 2) (h3 : Q 3) (h4 : Q 4) (h5 : Q 5) (h6 : Q 6) (h7 : Q 7) (d : Nat) (hd : 1 ≤ d) (hd7 : d ≤ 7) : Q d := by
  match d, hd, hd7 with
  | 1, _, _ => exact h1
  | 2, _, _ => exact h2
  | 3, _, _ => exact h3
  | 4, _, _ => exact h4
  | 5, _, _ => exact h5
  | 6, _, _ => exact h6
  | 7, _, _ => exact h7
theorem fitU_eq (c : Int) (d : Nat) (h0 : 0 ≤ c) (hd : 1 ≤ d) (hd7 : d ≤ 7) : (c / 2 ^ d == 0) = fitU c d := by
  refine seven (Q := fun d => (c / 2 ^ d == 0) = fitU c d) ?_ ?_ ?_ ?_ ?_ ?_ ?_ d hd hd7 <;>
  · rw [Bool.eq_iff_iff]
    simp only [fitU, beq_iff_eq, decide_eq_true_eq]
    omega
set_option maxHeartbeats 400000 in
set_option maxRecDepth 100000 in
theorem fitU_any (c : Int) (d : Nat) (w : World) (h0 : 0 ≤ c) (_h1 : c ≤ 127) (hd : 1 ≤ d) (hd7 : d ≤ 7) :
    Calls Tryz.prog 170 #[.int .u8 c, .int .i64 (d : Int)] w fun e w' => e = .returned (.bool (fitU c d)) ∧ w = w' := by
  go_enter Tryz.func170, Tryz.ntmps170
  go_wp2
  go_ret
  exact ⟨ret_bool (fitU_eq c d h0 hd hd7), rfl⟩

def ext (v m : Nat) : Int := if 64 ≤ m then wrap64 v else wrap64 (IntKind.u64.wrap ((v : Int) * 2 ^ (64 - m))) / 2 ^ (64 - m)

theorem next_no (ba bb : Nat) (k n c : Nat) (A : Option Addr) (w : World) (hat : w.cell? ⟨ba, 0, none⟩ = some (.int .i64 (k : Int))) (hb : w.cell? ⟨bb, 0, none⟩ = some (.slice A n c)) (hk : n ≤ k) :
    Calls Tryz.prog 239 #[.pointer (some ⟨ba, 0, none⟩), .pointer (some ⟨bb, 0, none⟩)] w fun e w' => e = .returned (.tuple #[.int .u8 0, .int .i64 0, .bool false]) ∧ w = w' := by
  go_enter Tryz.func239, Tryz.ntmps239
  go_wp2
  go_ret3
  exact ⟨rfl, rfl⟩

theorem next_yes (ba bb b off : Nat) (k n c : Nat) (x : Int) (w : World) (hat : w.cell? ⟨ba, 0, none⟩ = some (.int .i64 (k : Int))) (hfz : w.frozen? ⟨ba, 0, none⟩ = false) (hb : w.cell? ⟨bb, 0, none⟩ = some (.slice (some ⟨b, off, none⟩) n c)) (hk : k < n) (hn : n ≤ 1000000000)
    (hc : w.cell? ⟨b, off + k, none⟩ = some (.int .u8 x)) :
    Calls Tryz.prog 239 #[.pointer (some ⟨ba, 0, none⟩), .pointer (some ⟨bb, 0, none⟩)] w fun e w' => e = .returned (.tuple #[.int .u8 x, .int .i64 ((k : Int) + 1), .bool true]) ∧ ∃ m, w' = (w.setCell ⟨ba, 0, none⟩ (.int .i64 ((k : Int) + 1))).drewN m := by
  go_enter Tryz.func239, Tryz.ntmps239
  go_wp2
  go_quiet (fail)
  go_wp2
  go_ret3
  exact ⟨rfl, _, rfl⟩
end Go.Proofs.YtffegkjlgeblbaaGreatDoor.Leb

/- The function that gathers a number's digits, walked for both ways to ask its last byte: what it answers is what a plain function on the bytes says. -/
namespace Go.Proofs.YtffegkjlgeblbaaGreatDoor.Leb
open Go.RowKit

inductive RU where
  | short
  | form
  | ok (v m : Nat)

def more (acc lo : Nat) (c : Int) : Nat := acc + (c % 128).toNat * 2 ^ lo % 18446744073709551616

def rdl (fit : Int → Nat → Bool) (bits : Nat) : List Int → Nat → Nat → RU
  | [], _, _ => .short
  | c :: r, lo, acc =>
    if bits ≤ lo + 7 ∧ (128 ≤ c ∨ fit c (bits - lo) = false) then .form
    else if c < 128 then .ok (more acc lo c) (lo + 7)
    else rdl fit bits r (lo + 7) (more acc lo c)

theorem split64 (y lo : Nat) (hlo : lo ≤ 63) : y * 2 ^ lo % 18446744073709551616 = 2 ^ lo * (y % 2 ^ (64 - lo)) := by
  have e : 18446744073709551616 = 2 ^ lo * 2 ^ (64 - lo) := by rw [← Nat.pow_add, show lo + (64 - lo) = 64 from by omega]
  rw [e, Nat.mul_comm y, Nat.mul_mod_mul_left]

theorem or_add (acc lo : Nat) (c : Int) (hlo : lo ≤ 63) (ha : acc < 2 ^ lo) :
    bits .or .u64 (acc : Int) (IntKind.u64.wrap (c % 128 * 2 ^ lo)) = (more acc lo c : Int) := by
  unfold more
  obtain ⟨n, hn⟩ := Int.eq_ofNat_of_zero_le (show 0 ≤ c % 128 by omega)
  rw [hn]
  have h1 : IntKind.u64.wrap ((n : Int) * 2 ^ lo) = ((n * 2 ^ lo % 18446744073709551616 : Nat) : Int) := by
    rw [IntKind.wrap_u64]
    have : ((n : Int) * 2 ^ lo) = ((n * 2 ^ lo : Nat) : Int) := by simp
    rw [this]
    omega
  have h2 : (2 : Nat) ^ lo ≤ 2 ^ 63 := Nat.pow_le_pow_right (by omega) hlo
  rw [h1, u64_or_nat _ _ (by omega) (Nat.mod_lt _ (by omega)), Int.toNat_natCast, split64 n lo hlo, Nat.or_comm, Nat.add_comm acc, Nat.two_pow_add_eq_or_of_lt ha]

structure Loop (fit : Int → Nat → Bool) (bits at_ : Nat) (l : List Int) (A : Option Addr) (c : Nat) (w : World) (k lo acc : Nat) (wr : World) : Prop where
  low : 7 * k = 7 * at_ + lo
  lt : lo < bits
  lim : acc < 2 ^ lo
  same : rdl fit bits (l.drop k) lo acc = rdl fit bits (l.drop at_) 0 0
  le : k ≤ l.length
  cat : wr.cell? ⟨w.heap.size + 1, 0, none⟩ = some (.int .i64 (k : Int))
  fr : wr.frozen? ⟨w.heap.size + 1, 0, none⟩ = false
  cb : wr.cell? ⟨w.heap.size, 0, none⟩ = some (.slice A l.length c)
  bel : Below w.heap.size w wr
  big : w.heap.size + 1 < wr.heap.size

theorem Loop.start (fit : Int → Nat → Bool) (bits at_ : Nat) (l : List Int) (A : Option Addr) (c : Nat) (w : World) (hb : 1 ≤ bits) (hat : at_ ≤ l.length) :
    Loop fit bits at_ l A c w at_ 0 0 ((w.alloc (.cells #[.slice A l.length c] 22)).alloc (.cells #[.int .i64 (at_ : Int)] 3)) := by
  refine ⟨rfl, by omega, by simp, rfl, hat, ?_, ?_, ?_, ((Below.refl _ _).alloc (Nat.le_refl _) _).alloc (by simp) _, by simp⟩
  · rw [World.cell?_alloc_at _ _ _ _ (by simp)]; rfl
  · exact World.frozen?_alloc_at _ _ _ _ (by simp)
  · rw [World.cell?_alloc_past _ _ _ (by simp), World.cell?_alloc_at _ _ _ _ rfl]; rfl

theorem Loop.next {fit : Int → Nat → Bool} {bits at_ : Nat} {l : List Int} {A : Option Addr} {c : Nat} {w wr : World} {k lo acc : Nat} (h : Loop fit bits at_ l A c w k lo acc wr) {x : Int} (hx : l[k]? = some x) (h0 : 128 ≤ x) (hb : lo + 7 < bits) (h64 : bits ≤ 64) (m : Nat) :
    Loop fit bits at_ l A c w (k + 1) (lo + 7) (more acc lo x) ((wr.setCell ⟨w.heap.size + 1, 0, none⟩ (.int .i64 ((k : Int) + 1))).drewN m) := by
  have hlt : k < l.length := (List.getElem?_eq_some_iff.1 hx).1
  refine ⟨by have := h.low; omega, hb, ?_, ?_, by omega, ?_, ?_, ?_, ?_, ?_⟩
  · have hp : (2 : Nat) ^ (lo + 7) = 2 ^ lo * 128 := by rw [Nat.pow_add]
    have h3 : (2 : Nat) ^ (lo + 7) ≤ 2 ^ 63 := Nat.pow_le_pow_right (by omega) (by omega)
    have ha := h.lim
    have h4 : (x % 128).toNat * 2 ^ lo ≤ 127 * 2 ^ lo := Nat.mul_le_mul_right _ (by omega)
    have h5 := Nat.mod_le ((x % 128).toNat * 2 ^ lo) 18446744073709551616
    unfold more
    rw [hp]
    omega
  · rw [← h.same]
    have hd : l.drop k = x :: l.drop (k + 1) := by
      rw [List.drop_eq_getElem_cons hlt]
      congr 1
      exact (List.getElem?_eq_some_iff.1 hx).2
    rw [hd, rdl, if_neg (by omega), if_neg (by omega)]
  · show (wr.setCell _ _).cell? _ = _
    rw [World.cell?_setCell_same _ _ _ h.cat]
    congr 1
  · show (wr.setCell _ _).frozen? _ = _
    rw [World.frozen?_setCell]
    exact h.fr
  · show (wr.setCell _ _).cell? _ = _
    rw [World.cell?_setCell_other _ _ _ _ (by intro e; injection e with e; omega)]
    exact h.cb
  · have := h.bel.setCell (p := ⟨w.heap.size + 1, 0, none⟩) (by simp) (.int .i64 ((k : Int) + 1))
    exact ⟨this.os, this.tape, this.output, this.size, this.block⟩
  · show _ < (wr.setCell _ _).heap.size
    have := h.big
    simpa [World.setCell] using this

def told (at_ : Nat) : RU → Value
  | .short => .tuple #[.int .u64 0, .int .i64 0, .int .i64 0, .int .i64 2]
  | .form => .tuple #[.int .u64 0, .int .i64 0, .int .i64 0, .int .i64 3]
  | .ok v m => .tuple #[.int .u64 (v : Int), .int .i64 (m : Int), .int .i64 ((at_ + m / 7 : Nat) : Int), .int .i64 0]
def Told (w : World) (at_ : Nat) (r : RU) (e : Ending) (w' : World) : Prop := e = .returned (told at_ r) ∧ Below w.heap.size w w'

theorem results4 {fn : Func} {t u v x : Tmp} (h : fn.results = #[.tmp t, .tmp u, .tmp v, .tmp x]) (tmps : Array Value) (P : Program) (w : World) :
    (results fn tmps).run P w = .ok (.tuple #[tmps.getD t undef, tmps.getD u undef, tmps.getD v undef, tmps.getD x undef]) w := by simp [results, h]

theorem rdl_form {fit : Int → Nat → Bool} {bits lo acc : Nat} {c : Int} {r : List Int} (h : bits ≤ lo + 7) (h2 : 128 ≤ c ∨ fit c (bits - lo) = false) : rdl fit bits (c :: r) lo acc = .form := by rw [rdl, if_pos ⟨h, h2⟩]
theorem rdl_ok {fit : Int → Nat → Bool} {bits lo acc : Nat} {c : Int} {r : List Int} (h : bits ≤ lo + 7 → fit c (bits - lo) = true) (h2 : c < 128) : rdl fit bits (c :: r) lo acc = .ok (more acc lo c) (lo + 7) := by
  rw [rdl, if_neg (by rintro ⟨h3, h4 | h4⟩; omega; rw [h h3] at h4; cases h4), if_pos h2]

theorem Loop.ended {fit : Int → Nat → Bool} {bits at_ : Nat} {l : List Int} {A : Option Addr} {c : Nat} {w wr : World} {k lo acc : Nat} (h : Loop fit bits at_ l A c w k lo acc wr) {r : RU} {ls : List Int} {w' : World} (hl : l.drop k = ls) (hr : rdl fit bits ls lo acc = r) (hb : Below w.heap.size w w') :
    Told w at_ (rdl fit bits (l.drop at_) 0 0) (.returned (told at_ r)) w' := by
  subst hr hl
  rw [h.same]
  exact ⟨rfl, hb⟩

theorem Loop.below {fit : Int → Nat → Bool} {bits at_ : Nat} {l : List Int} {A : Option Addr} {c : Nat} {w wr : World} {k lo acc : Nat} (h : Loop fit bits at_ l A c w k lo acc wr) (v : Value) (m : Nat) : Below w.heap.size w ((wr.setCell ⟨w.heap.size + 1, 0, none⟩ v).drewN m) := by
  have := h.bel.setCell (p := ⟨w.heap.size + 1, 0, none⟩) (by simp) v
  exact ⟨this.os, this.tape, this.output, this.size, this.block⟩

theorem drop_at {l : List Int} {k : Nat} {x : Int} (hx : l[k]? = some x) : l.drop k = x :: l.drop (k + 1) := by
  have hlt := (List.getElem?_eq_some_iff.1 hx).1
  rw [List.drop_eq_getElem_cons hlt]
  congr 1
  exact (List.getElem?_eq_some_iff.1 hx).2

theorem told_ok (at_ k lo v : Nat) (h : 7 * k = 7 * at_ + lo) : told at_ (.ok v (lo + 7)) = .tuple #[.int .u64 (v : Int), .int .i64 ((lo : Int) + 7), .int .i64 ((k : Int) + 1), .int .i64 0] := by
  have e : at_ + (lo + 7) / 7 = k + 1 := by omega
  simp only [told, e]
  rfl

theorem taker_any (A : Option Addr) (n c : Nat) (k : Int) (w : World) : Calls Tryz.prog 212 #[.slice A n c, .int .i64 k] w fun e w' =>
    e = .returned (.func (.func 239) #[] #[.pointer (some ⟨w.heap.size + 1, 0, none⟩), .pointer (some ⟨w.heap.size, 0, none⟩)]) ∧ (w.alloc (.cells #[.slice A n c] 22)).alloc (.cells #[.int .i64 k] 3) = w' := by
  have hmf : ∀ (fn : Fn) (first cap : Array Value) (w : World), (Instr.makeFunc fn first cap).run Tryz.prog w = .ok (.func fn first cap) w := fun _ _ _ _ => rfl
  go_enter Tryz.func212, Tryz.ntmps212
  go_wp2
  go_ret
  exact ⟨rfl, rfl⟩

set_option maxHeartbeats 2000000 in
set_option maxRecDepth 100000 in
theorem readU_any (A : Option Addr) (c bits at_ : Nat) (l : List Int) (w : World) (hA : Byt w w.heap.size A l) (hl : l.length ≤ 1000000) (hby : ∀ x ∈ l, 0 ≤ x ∧ x ≤ 255) (hb1 : 1 ≤ bits) (hb64 : bits ≤ 64) (hat : at_ ≤ l.length) :
    Calls Tryz.prog 169 #[.slice A l.length c, .int .i64 (at_ : Int), .int .i64 (bits : Int), .func (.func 170) #[] #[]] w (Told w at_ (rdl fitU bits (l.drop at_) 0 0)) := by
  have HA := Lib.hid hA
  have HB := Lib.hid hby
  have HS := Lib.hid (Loop.start fitU bits at_ l A c w hb1 hat)
  have d1 : decide ((bits : Int) < 1) = false := by simp; omega
  have d2 : decide (64 < (bits : Int)) = false := by simp; omega
  have d3 : decide ((at_ : Int) < 0) = false := by simp
  have d4 : decide (l.length < at_) = false := by simp; omega
  clear hA hby
  go_enter Tryz.func169, Tryz.ntmps169
  go_wp2_with (go_at_call 212; refine (taker_any _ _ _ _ _).mono ?_; rintro e w' ⟨rfl, rfl⟩)
  clear d1 d2 d3 d4
  go_loopw [13, 14] (fun d lo wr => ∃ k q acc : Nat, d = .int .u64 (acc : Int) ∧ lo = .int .i64 (q : Int) ∧ Loop fitU bits at_ l A c w k q acc wr) (fun _ lo _ => 64 - (intOf lo).toNat)
  case atStart => exact ⟨at_, 0, 0, rfl, rfl, HS.out⟩
  case round =>
    obtain ⟨k, lo, acc, rfl, rfl, hL⟩ := hrel
    have HL := Lib.hid hL
    have hlt := hL.lt
    have hle := hL.le
    have HC := Lib.hid (And.intro hL.cat (And.intro hL.fr hL.cb))
    clear hL HS
    by_cases hn : k = l.length
    · have HN := Lib.hid hn
      have hge : l.length ≤ k := by omega
      clear hn
      go_wp2_with (go_at_call 239; refine (next_no _ _ k _ _ _ _ HC.out.1 HC.out.2.2 hge).mono ?_; rintro e w' ⟨rfl, rfl⟩)
      refine bodyPost_ret (results4 rfl _ _ _) rfl ?_
      exact HL.out.ended (r := .short) (ls := []) (by rw [HN.out]; exact List.drop_length) rfl HL.out.bel
    · have hk : k < l.length := by omega
      clear hn hle
      obtain ⟨x, hx⟩ : ∃ x, l[k]? = some x := ⟨_, List.getElem?_eq_getElem hk⟩
      obtain ⟨hx0, hx1⟩ := HB.out x (List.mem_of_getElem? hx)
      obtain ⟨ad, hAe, had, hcell⟩ := HA.out (by omega)
      have hc1 := hcell k (.int .u8 x) (by simp [vb, hx])
      obtain ⟨ab, ao, asp⟩ := ad
      have hspot : asp = none := by
        have h0 := hcell 0 (.int .u8 (l[0]'(by omega))) (by simp [vb, show 0 < l.length by omega])
        simpa [Addr.add] using World.cell?_spot h0
      subst hspot
      have hplain : (⟨ab, ao, none⟩ : Addr).add k = ⟨ab, ao + k, none⟩ := by unfold Addr.add; split <;> simp_all
      rw [hplain] at hc1
      have hc2 : wr.cell? ⟨ab, ao + k, none⟩ = some (.int .u8 x) := (HL.out.bel.cell (p := ⟨ab, ao + k, none⟩) had).trans hc1
      rw [hAe] at HC
      have HY := Lib.hid (next_yes (w.heap.size + 1) w.heap.size ab ao k l.length c x wr HC.out.1 HC.out.2.1 HC.out.2.2 hk (by omega) hc2)
      have HX := Lib.hid hx
      have HO := Lib.hid (or_add acc lo x (by omega) HL.out.lim)
      clear hx hAe hcell hc1 hplain hc2 HC had
      by_cases h7 : bits ≤ lo + 7
      · by_cases hg : 128 ≤ x
        · go_wp2_with (go_at_call 239; refine HY.out.mono ?_; rintro e w' ⟨rfl, m, rfl⟩)
          refine bodyPost_ret (results4 rfl _ _ _) rfl ?_
          exact HL.out.ended (r := .form) (drop_at HX.out) (rdl_form h7 (.inl hg)) (HL.out.below _ _)
        · have hor := HO.out
          have HF := Lib.hid (fun W => fitU_any x (bits - lo) W hx0 (by omega) (by omega) (by omega))
          have ed : ((bits : Int) - (lo : Int)) = ((bits - lo : Nat) : Int) := by omega
          by_cases hf : fitU x (bits - lo) = true
          · go_wp2_with (first | (go_at_call 239; refine HY.out.mono ?_; rintro e w' ⟨rfl, m, rfl⟩) | (go_at_call 170; refine (HF.out _).mono ?_; rintro e w' ⟨rfl, rfl⟩))
            refine bodyPost_ret (results4 rfl _ _ _) rfl ?_
            have fin := HL.out.ended (drop_at HX.out) (rdl_ok (fun _ => hf) (by omega)) (HL.out.below (.int .i64 ((k : Int) + 1)) m)
            rw [told_ok at_ k lo _ HL.out.low] at fin
            exact fin
          · have hf2 : fitU x (bits - lo) = false := by simpa using hf
            clear hf
            go_wp2_with (first | (go_at_call 239; refine HY.out.mono ?_; rintro e w' ⟨rfl, m, rfl⟩) | (go_at_call 170; refine (HF.out _).mono ?_; rintro e w' ⟨rfl, rfl⟩))
            refine bodyPost_ret (results4 rfl _ _ _) rfl ?_
            exact HL.out.ended (r := .form) (drop_at HX.out) (rdl_form h7 (.inr hf2)) (HL.out.below _ _)
      · have hor := HO.out
        by_cases hg : 128 ≤ x
        · go_wp2_with (go_at_call 239; refine HY.out.mono ?_; rintro e w' ⟨rfl, m, rfl⟩)
          go_roundw
          case rel => exact ⟨k + 1, lo + 7, _, rfl, by go_num, HL.out.next HX.out hg (by omega) hb64 m⟩
          case measure => simp [intOf]; omega
        · go_wp2_with (go_at_call 239; refine HY.out.mono ?_; rintro e w' ⟨rfl, m, rfl⟩)
          refine bodyPost_ret (results4 rfl _ _ _) rfl ?_
          have fin := HL.out.ended (drop_at HX.out) (rdl_ok (fun h => absurd h h7) (by omega)) (HL.out.below (.int .i64 ((k : Int) + 1)) m)
          rw [told_ok at_ k lo _ HL.out.low] at fin
          exact fin
end Go.Proofs.YtffegkjlgeblbaaGreatDoor.Leb

/- The function that gathers a number's digits, walked for a number that may be below 0. -/
namespace Go.Proofs.YtffegkjlgeblbaaGreatDoor.Leb
open Go.RowKit

end Go.Proofs.YtffegkjlgeblbaaGreatDoor.Leb

/- The two functions that read a number of any bytes, at any place, of any width: what they answer, wrong arguments included. -/
namespace Go.Proofs.YtffegkjlgeblbaaGreatDoor.Leb
open Go.RowKit

def badArg (l : List Int) (at_ bits : Int) : Prop := bits < 1 ∨ 64 < bits ∨ at_ < 0 ∨ (l.length : Int) < at_

set_option maxHeartbeats 400000 in
set_option maxRecDepth 100000 in
theorem badU_any (A : Option Addr) (c : Nat) (bits at_ : Int) (l : List Int) (w : World) (_hl : l.length ≤ 1000000) (h : badArg l at_ bits) :
    Calls Tryz.prog 169 #[.slice A l.length c, .int .i64 at_, .int .i64 bits, .func (.func 170) #[] #[]] w fun e w' => e = .returned (.tuple #[.int .u64 0, .int .i64 0, .int .i64 0, .int .i64 1]) ∧ w = w' := by
  unfold badArg at h
  by_cases h1 : bits < 1
  · clear h
    go_enter Tryz.func169, Tryz.ntmps169
    go_wp2
    refine bodyPost_ret (results4 rfl _ _ _) rfl ?_
    exact ⟨rfl, rfl⟩
  · by_cases h2 : 64 < bits
    · clear h
      go_enter Tryz.func169, Tryz.ntmps169
      go_wp2
      refine bodyPost_ret (results4 rfl _ _ _) rfl ?_
      exact ⟨rfl, rfl⟩
    · by_cases h3 : at_ < 0
      · clear h
        go_enter Tryz.func169, Tryz.ntmps169
        go_wp2
        refine bodyPost_ret (results4 rfl _ _ _) rfl ?_
        exact ⟨rfl, rfl⟩
      · have h4 : (l.length : Int) < at_ := by omega
        clear h
        go_enter Tryz.func169, Tryz.ntmps169
        go_wp2
        refine bodyPost_ret (results4 rfl _ _ _) rfl ?_
        exact ⟨rfl, rfl⟩

def ansU (at_ : Nat) : RU → Value
  | .short => .tuple #[.int .u64 0, .int .i64 0, .int .i64 2]
  | .form => .tuple #[.int .u64 0, .int .i64 0, .int .i64 3]
  | .ok v m => .tuple #[.int .u64 (v : Int), .int .i64 ((at_ + m / 7 : Nat) : Int), .int .i64 0]
set_option maxHeartbeats 400000 in
set_option maxRecDepth 100000 in
theorem ReadU_ok (A : Option Addr) (c bits at_ : Nat) (l : List Int) (w : World) (hA : Byt w w.heap.size A l) (hl : l.length ≤ 1000000) (hby : ∀ x ∈ l, 0 ≤ x ∧ x ≤ 255) (hb1 : 1 ≤ bits) (hb64 : bits ≤ 64) (hat : at_ ≤ l.length) :
    Calls Tryz.prog 111 #[.slice A l.length c, .int .i64 (at_ : Int), .int .i64 (bits : Int)] w fun e w' => e = .returned (ansU at_ (rdl fitU bits (l.drop at_) 0 0)) ∧ Below w.heap.size w w' := by
  have H := Lib.hid (readU_any A c bits at_ l w hA hl hby hb1 hb64 hat)
  clear hA hby hb1 hb64 hat
  generalize hr : rdl fitU bits (l.drop at_) 0 0 = r at H ⊢
  clear hr
  rcases r with _ | _ | ⟨v, m⟩
  · have H2 := Lib.hid (H.out.mono fun e w' h => (show e = .returned (.tuple #[.int .u64 0, .int .i64 0, .int .i64 0, .int .i64 2]) ∧ Below w.heap.size w w' from h))
    clear H
    go_enter Tryz.func111, Tryz.ntmps111
    go_wp2_with (go_at_call 169; refine H2.out.mono ?_; rintro e w' ⟨rfl, hb⟩)
    go_ret3
    exact ⟨rfl, hb⟩
  · have H2 := Lib.hid (H.out.mono fun e w' h => (show e = .returned (.tuple #[.int .u64 0, .int .i64 0, .int .i64 0, .int .i64 3]) ∧ Below w.heap.size w w' from h))
    clear H
    go_enter Tryz.func111, Tryz.ntmps111
    go_wp2_with (go_at_call 169; refine H2.out.mono ?_; rintro e w' ⟨rfl, hb⟩)
    go_ret3
    exact ⟨rfl, hb⟩
  · have H2 := Lib.hid (H.out.mono fun e w' h => (show e = .returned (.tuple #[.int .u64 (v : Int), .int .i64 (m : Int), .int .i64 ((at_ + m / 7 : Nat) : Int), .int .i64 0]) ∧ Below w.heap.size w w' from h))
    clear H
    go_enter Tryz.func111, Tryz.ntmps111
    go_wp2_with (go_at_call 169; refine H2.out.mono ?_; rintro e w' ⟨rfl, hb⟩)
    go_ret3
    exact ⟨rfl, hb⟩

set_option maxHeartbeats 400000 in
set_option maxRecDepth 100000 in
theorem ReadU_bad (A : Option Addr) (c : Nat) (bits at_ : Int) (l : List Int) (w : World) (hl : l.length ≤ 1000000) (h : badArg l at_ bits) :
    Calls Tryz.prog 111 #[.slice A l.length c, .int .i64 at_, .int .i64 bits] w fun e w' => e = .returned (.tuple #[.int .u64 0, .int .i64 0, .int .i64 1]) ∧ w = w' := by
  have H := Lib.hid (badU_any A c bits at_ l w hl h)
  clear h
  go_enter Tryz.func111, Tryz.ntmps111
  go_wp2_with (go_at_call 169; refine H.out.mono ?_; rintro e w' ⟨rfl, rfl⟩)
  go_ret3
  exact ⟨rfl, rfl⟩

end Go.Proofs.YtffegkjlgeblbaaGreatDoor.Leb

/- Plain facts on reading numbers: what is laid is read as it was, by a width that has it; more bytes that say nothing are read, too; a greater width reads the same. -/
namespace Go.Proofs.YtffegkjlgeblbaaGreatDoor.Leb
open Go.RowKit

theorem ten_of {Q : Nat → Prop} (h0 : Q 0) (h1 : Q 7) (h2 : Q 14) (h3 : Q 21) (h4 : Q 28) (h5 : Q 35) (h6 : Q 42) (h7 : Q 49) (h8 : Q 56) (h9 : Q 63) (lo : Nat) (hlo : lo ≤ 63) (hm : lo % 7 = 0) : Q lo := by
  have : lo = 0 ∨ lo = 7 ∨ lo = 14 ∨ lo = 21 ∨ lo = 28 ∨ lo = 35 ∨ lo = 42 ∨ lo = 49 ∨ lo = 56 ∨ lo = 63 := by omega
  rcases this with rfl | rfl | rfl | rfl | rfl | rfl | rfl | rfl | rfl | rfl <;> assumption

theorem pow_split (a b : Nat) (h : a ≤ b) : (2 : Nat) ^ b = 2 ^ a * 2 ^ (b - a) := by rw [← Nat.pow_add, show a + (b - a) = b from by omega]

theorem fitU_iff (c : Nat) (d : Nat) : fitU (c : Int) d = true ↔ c < 2 ^ d := by
  unfold fitU
  rw [decide_eq_true_eq]
  have : ((2 : Int) ^ d) = ((2 ^ d : Nat) : Int) := by simp
  rw [this]
  omega

theorem more_small (acc lo : Nat) (c : Int) (u : Nat) (hc : c % 128 = (u : Int)) (h : u * 2 ^ lo < 18446744073709551616) : more acc lo c = acc + u * 2 ^ lo := by
  unfold more
  rw [hc, Int.toNat_natCast, Nat.mod_eq_of_lt h]

theorem rdU_back (k : Nat) (hk : k ≤ 64) (tail : List Int) : ∀ (n u lo acc : Nat), u ≤ n → lo < k → lo % 7 = 0 → acc < 2 ^ lo →
    rdl fitU k (uB u ++ tail) lo acc = if u < 2 ^ (k - lo) then .ok (acc + u * 2 ^ lo) (lo + 7 * lenU u) else .form := by
  intro n
  induction n with
  | zero =>
    intro u lo acc hu hlo hm ha
    obtain rfl : u = 0 := by omega
    rw [uB_small (by omega), lenU_small (by omega), if_pos (Nat.pow_pos (by omega))]
    rw [List.singleton_append, rdl_ok (fun _ => (fitU_iff 0 _).2 (Nat.pow_pos (by omega))) (by omega), more_small acc lo _ 0 (by rfl) (by simp)]
  | succ n ih =>
    intro u lo acc hu hlo hm ha
    have hp := pow_split lo 64 (by omega)
    have hpk := pow_split lo k (by omega)
    have h64 : (2 : Nat) ^ k ≤ 2 ^ 64 := Nat.pow_le_pow_right (by omega) hk
    have hpos : 0 < (2 : Nat) ^ lo := Nat.pow_pos (by omega)
    by_cases hs : u < 128
    · rw [uB_small hs, lenU_small hs, List.singleton_append]
      by_cases hf : u < 2 ^ (k - lo)
      · have hmul : u * 2 ^ lo < 2 ^ k := by rw [hpk, Nat.mul_comm]; exact Nat.mul_lt_mul_of_pos_left hf hpos
        rw [if_pos hf, rdl_ok (fun _ => (fitU_iff u _).2 hf) (by omega), more_small acc lo _ u (by omega) (by omega)]
      · rw [if_neg hf]
        have h7 : k ≤ lo + 7 := by
          rcases Nat.lt_or_ge (lo + 7) k with h | h
          · exfalso
            have : (2 : Nat) ^ 7 ≤ 2 ^ (k - lo) := Nat.pow_le_pow_right (by omega) (by omega)
            omega
          · exact h
        refine rdl_form h7 (.inr ?_)
        rw [Bool.eq_false_iff]
        intro h
        exact hf ((fitU_iff u _).1 h)
    · rw [uB_great (by omega), lenU_great (by omega), List.cons_append]
      by_cases h7 : k ≤ lo + 7
      · have : (2 : Nat) ^ (k - lo) ≤ 2 ^ 7 := Nat.pow_le_pow_right (by omega) (by omega)
        rw [if_neg (by omega)]
        exact rdl_form h7 (.inl (by omega))
      · have hq : (2 : Nat) ^ (k - lo) = 128 * 2 ^ (k - (lo + 7)) := by
          rw [show k - lo = 7 + (k - (lo + 7)) from by omega, Nat.pow_add]
        have hl7 : (2 : Nat) ^ (lo + 7) = 2 ^ lo * 128 := by rw [Nat.pow_add]
        have h63 : (2 : Nat) ^ (lo + 7) ≤ 2 ^ 63 := Nat.pow_le_pow_right (by omega) (by omega)
        have hmul : (u % 128) * 2 ^ lo ≤ 127 * 2 ^ lo := Nat.mul_le_mul_right _ (by omega)
        rw [rdl, if_neg (by omega), if_neg (by omega), more_small acc lo _ (u % 128) (by omega) (by omega)]
        rw [ih (u / 128) (lo + 7) _ (by omega) (by omega) (by omega) (by rw [hl7]; omega)]
        have hsum : acc + u % 128 * 2 ^ lo + u / 128 * 2 ^ (lo + 7) = acc + u * 2 ^ lo := by
          rw [hl7]
          have : u * 2 ^ lo = (u % 128) * 2 ^ lo + (u / 128) * (2 ^ lo * 128) := by
            have e : u = u % 128 + u / 128 * 128 := by omega
            rw [show (u / 128) * (2 ^ lo * 128) = (u / 128 * 128) * 2 ^ lo from by rw [Nat.mul_assoc, Nat.mul_comm 128]]
            rw [← Nat.add_mul]
            rw [← e]
          omega
        rw [hsum]
        by_cases hf : u < 2 ^ (k - lo)
        · rw [if_pos hf, if_pos (by omega)]
          congr 1
          omega
        · rw [if_neg hf, if_neg (by omega)]

def wide (m : Nat) : Int := if m ≤ 63 then 2 ^ m else 18446744073709551616

theorem fitS_iff (s : Int) (d : Nat) (h1 : -64 ≤ s) (h2 : s ≤ 63) (hd : 1 ≤ d) (hd7 : d ≤ 7) : fitS (s % 128) d = true ↔ -2 ^ (d - 1) ≤ s ∧ s < 2 ^ (d - 1) := by
  refine seven (Q := fun d => fitS (s % 128) d = true ↔ -2 ^ (d - 1) ≤ s ∧ s < 2 ^ (d - 1)) ?_ ?_ ?_ ?_ ?_ ?_ ?_ d hd hd7 <;>
  · simp only [fitS, Bool.or_eq_true, decide_eq_true_eq]
    omega

theorem baseS (acc : Nat) (s : Int) (h1 : -64 ≤ s) (h2 : s ≤ 63) (lo : Nat) (hlo : lo ≤ 63) (hm : lo % 7 = 0) (ha : acc < 2 ^ lo) : (more acc lo (s % 128) : Int) = ((acc : Int) + s * 2 ^ lo) % wide (lo + 7) := by
  revert ha
  refine ten_of (Q := fun lo => acc < 2 ^ lo → (more acc lo (s % 128) : Int) = ((acc : Int) + s * 2 ^ lo) % wide (lo + 7)) ?_ ?_ ?_ ?_ ?_ ?_ ?_ ?_ ?_ ?_ lo hlo hm <;>
  · intro ha
    simp only [more, wide, Nat.reduceAdd, Nat.reduceLeDiff, ↓reduceIte] at ha ⊢
    omega

theorem stepS (acc : Nat) (s : Int) (lo : Nat) (hlo : lo ≤ 56) (hm : lo % 7 = 0) (ha : acc < 2 ^ lo) : more acc lo (s % 128 + 128) < 2 ^ (lo + 7) ∧ (more acc lo (s % 128 + 128) : Int) + s / 128 * 2 ^ (lo + 7) = (acc : Int) + s * 2 ^ lo := by
  revert ha
  refine ten_of (Q := fun lo => lo ≤ 56 → acc < 2 ^ lo → more acc lo (s % 128 + 128) < 2 ^ (lo + 7) ∧ (more acc lo (s % 128 + 128) : Int) + s / 128 * 2 ^ (lo + 7) = (acc : Int) + s * 2 ^ lo) ?_ ?_ ?_ ?_ ?_ ?_ ?_ ?_ ?_ ?_ lo (by omega) hm hlo <;>
  · intro h56 ha
    first
      | (simp only [more] at ha ⊢; omega)
      | omega

theorem powI (d : Nat) (hd : 7 ≤ d) : (64 : Int) ≤ 2 ^ (d - 1) := by
  have h : (2 : Nat) ^ 6 ≤ 2 ^ (d - 1) := Nat.pow_le_pow_right (by omega) (by omega)
  have e : ((2 : Int) ^ (d - 1)) = ((2 ^ (d - 1) : Nat) : Int) := by simp
  rw [e]
  omega

theorem powI_le (d : Nat) (hd7 : d ≤ 7) : (2 : Int) ^ (d - 1) ≤ 64 := by
  have h : (2 : Nat) ^ (d - 1) ≤ 2 ^ 6 := Nat.pow_le_pow_right (by omega) (by omega)
  have e : ((2 : Int) ^ (d - 1)) = ((2 ^ (d - 1) : Nat) : Int) := by simp
  rw [e]
  omega

theorem rdS_back (k : Nat) (hk : k ≤ 64) (tail : List Int) : ∀ (n : Nat) (s : Int) (lo acc : Nat), s.natAbs ≤ n → lo < k → lo % 7 = 0 → acc < 2 ^ lo →
    if -2 ^ (k - lo - 1) ≤ s ∧ s < 2 ^ (k - lo - 1) then ∃ V : Nat, rdl fitS k (sB s ++ tail) lo acc = .ok V (lo + 7 * lenS s) ∧ (V : Int) = ((acc : Int) + s * 2 ^ lo) % wide (lo + 7 * lenS s)
    else rdl fitS k (sB s ++ tail) lo acc = .form := by
  intro n
  induction n with
  | zero =>
    intro s lo acc hs hlo hm ha
    obtain rfl : s = 0 := by omega
    have hp : (0 : Int) < 2 ^ (k - lo - 1) := Int.pow_pos (by omega)
    rw [if_pos (by omega)]
    refine ⟨more acc lo (0 % 128), ?_, ?_⟩
    · rw [sB_small (by omega), lenS_small (by omega), List.singleton_append]
      refine rdl_ok (fun h7 => (fitS_iff 0 _ (by omega) (by omega) (by omega) (by omega)).2 ?_) (by omega)
      omega
    · rw [lenS_small (by omega)]
      exact baseS acc 0 (by omega) (by omega) lo (by omega) hm ha
  | succ n ih =>
    intro s lo acc hs hlo hm ha
    by_cases hsm : -64 ≤ s ∧ s ≤ 63
    · rw [sB_small hsm, lenS_small hsm, List.singleton_append]
      by_cases hf : -2 ^ (k - lo - 1) ≤ s ∧ s < 2 ^ (k - lo - 1)
      · rw [if_pos hf]
        exact ⟨more acc lo (s % 128), rdl_ok (fun h7 => (fitS_iff s _ hsm.1 hsm.2 (by omega) (by omega)).2 hf) (by omega), baseS acc s hsm.1 hsm.2 lo (by omega) hm ha⟩
      · rw [if_neg hf]
        have h7 : k ≤ lo + 7 := by
          rcases Nat.lt_or_ge (lo + 7) k with h | h
          · have := powI (k - lo) (by omega)
            omega
          · exact h
        refine rdl_form h7 (.inr ?_)
        rw [Bool.eq_false_iff]
        intro h
        exact hf ((fitS_iff s _ hsm.1 hsm.2 (by omega) (by omega)).1 h)
    · rw [sB_great hsm, lenS_great hsm, List.cons_append]
      by_cases h7 : k ≤ lo + 7
      · have := powI_le (k - lo) (by omega)
        rw [if_neg (by omega)]
        exact rdl_form h7 (.inl (by omega))
      · obtain ⟨g1, g2⟩ := stepS acc s lo (by omega) hm ha
        have hr : rdl fitS k ((s % 128 + 128) :: (sB (s / 128) ++ tail)) lo acc = rdl fitS k (sB (s / 128) ++ tail) (lo + 7) (more acc lo (s % 128 + 128)) := by
          rw [rdl, if_neg (by omega), if_neg (by omega)]
        have := ih (s / 128) (lo + 7) (more acc lo (s % 128 + 128)) (by omega) (by omega) (by omega) g1
        rw [g2, show lo + 7 + 7 * lenS (s / 128) = lo + 7 * (lenS (s / 128) + 1) from by omega] at this
        rw [hr]
        have hq : (2 : Int) ^ (k - lo - 1) = 128 * 2 ^ (k - (lo + 7) - 1) := by
          rw [show k - lo - 1 = 7 + (k - (lo + 7) - 1) from by omega, Int.pow_add]
          rfl
        by_cases hf : -2 ^ (k - lo - 1) ≤ s ∧ s < 2 ^ (k - lo - 1)
        · rw [if_pos hf]
          rw [if_pos (by omega)] at this
          exact this
        · rw [if_neg hf]
          rw [if_neg (by omega)] at this
          exact this

theorem lenS_range : ∀ (n : Nat) (s : Int), s.natAbs ≤ n → -(64 * 128 ^ (lenS s - 1)) ≤ s ∧ s < 64 * 128 ^ (lenS s - 1)
  | 0, s, h => by
    rw [lenS_small (by omega)]
    simp
    omega
  | n + 1, s, h => by
    by_cases hs : -64 ≤ s ∧ s ≤ 63
    · rw [lenS_small hs]
      simp
      omega
    · have ih := lenS_range n (s / 128) (by omega)
      have hp := lenS_pos (s / 128)
      rw [lenS_great hs, show lenS (s / 128) + 1 - 1 = (lenS (s / 128) - 1) + 1 from by omega, Int.pow_succ]
      omega

theorem ext_back (s : Int) (V : Nat) (h1 : -9223372036854775808 ≤ s) (h2 : s ≤ 9223372036854775807) (hV : (V : Int) = s % wide (7 * lenS s)) : ext V (7 * lenS s) = s := by
  have hr := lenS_range _ s (Nat.le_refl _)
  have ht := lenS_ten h1 h2
  have hp := lenS_pos s
  generalize lenS s = n at hr ht hp hV ⊢
  have : n = 1 ∨ n = 2 ∨ n = 3 ∨ n = 4 ∨ n = 5 ∨ n = 6 ∨ n = 7 ∨ n = 8 ∨ n = 9 ∨ n = 10 := by omega
  rcases this with rfl | rfl | rfl | rfl | rfl | rfl | rfl | rfl | rfl | rfl <;>
  · simp only [ext, wide, IntKind.wrap_u64, wrap64, Nat.reduceMul, Nat.reduceLeDiff, Nat.reduceSub, ↓reduceIte] at hV ⊢
    simp only [Nat.reduceSub] at hr
    omega

end Go.Proofs.YtffegkjlgeblbaaGreatDoor.Leb

/- The two functions of the program that lay a number in bytes, walked: what they hand back is what was handed in and the number's bytes behind it. -/
namespace Go.Proofs.YtffegkjlgeblbaaGreatDoor.Leb
open Go.RowKit

def Mid (w : World) (B : Nat) (all rest : List Int) (v : Value) (wr : World) : Prop :=
  ∃ done : List Int, done ++ rest = all ∧ Own wr B v done ∧ Below B w wr ∧ B ≤ wr.heap.size

theorem Mid.step {w wr w1 : World} {B : Nat} {all rest : List Int} {x : Int} {v' : Value} {done : List Int} (hall : done ++ (x :: rest) = all) (hb : Below B w wr) (hB : B ≤ wr.heap.size) (ho : Own w1 B v' (done ++ [x])) (hg : Below B wr w1) :
    Mid w B all rest v' w1 :=
  ⟨done ++ [x], by simpa using hall, ho, hb.trans hg, Nat.le_trans hB hg.size⟩

theorem Mid.end_ {w wr w1 : World} {all : List Int} {x : Int} {v' : Value} {done : List Int} (hall : done ++ [x] = all) (hb : Below w.heap.size w wr) (ho : Own w1 w.heap.size v' (done ++ [x])) (hg : Below w.heap.size wr w1) :
    Laid w all (.returned v') w1 := by
  subst hall
  exact ⟨_, rfl, ho, hb.trans hg⟩

set_option maxHeartbeats 400000 in
set_option maxRecDepth 100000 in
theorem U_any (A : Option Addr) (c v : Nat) (l : List Int) (w : World) (hA : Byt w w.heap.size A l) (hl : l.length ≤ 1000000) (hv : v < 18446744073709551616) :
    Calls Tryz.prog 69 #[.slice A l.length c, .int .u64 (v : Int)] w (Laid w (l ++ uB v)) := by
  have hlen := lenU_ten hv
  have hU := Lib.hid (LenU_any v w hv)
  have hub := uB_len v
  have hall : (l ++ uB v).length ≤ 1000010 := by rw [List.length_append, hub]; omega
  have HG := Lib.hid (grown_any A c (lenU v) l w hA (by omega) (by omega))
  clear hA hv hub
  have HALL := Lib.hid hall
  clear hall
  go_enter Tryz.func69, Tryz.ntmps69
  go_wp2_with (first | (go_at_call 115; refine hU.out.mono ?_; rintro e w' ⟨rfl, rfl⟩) | (go_at_call 116; refine HG.out.mono ?_; rintro e w1 ⟨v1, rfl, hown1, hb1⟩))
  clear hU HG
  have hB1 := hb1.size
  go_loopw [1, 5] (fun x s wr => ∃ u : Nat, x = .int .u64 (u : Int) ∧ Mid w w.heap.size (l ++ uB v) (uB u) s wr) (fun x _ _ => (intOf x).toNat)
  case atStart => exact ⟨v, rfl, l, rfl, hown1, hb1, hB1⟩
  case round =>
    obtain ⟨u, rfl, done, hd, hown, hb, hB⟩ := hrel
    have hdl : done.length ≤ 1000010 := by have := HALL.out; rw [← hd, List.length_append] at this; omega
    have HD := Lib.hid hd
    have HO := Lib.hid hown
    clear hd hown
    by_cases hlt : u < 128
    · go_wp2_with (at_builtin; refine wp_byte wr rfl (.tmp 21) (.tmp 24) rfl w.heap.size _ done (u : Int) rfl HO.out rfl (by omega) hB ?_; intro v2 w2 ho2 hb2)
      go_ret
      exact Mid.end_ (by have := HD.out; rw [uB_small hlt] at this; exact this) hb ho2 hb2
    · go_wp2_with (at_builtin; refine wp_byte wr rfl (.tmp 12) (.tmp 17) rfl w.heap.size _ done ((u : Int) % 128 + 128) rfl HO.out rfl (by omega) hB ?_; intro v2 w2 ho2 hb2)
      go_roundw
      case rel => exact ⟨u / 128, by go_num, Mid.step (by have := HD.out; rw [uB_great (by omega)] at this; exact this) hb hB ho2 hb2⟩
      case measure => simp [intOf]; omega

set_option maxHeartbeats 400000 in
set_option maxRecDepth 100000 in
theorem S_any (A : Option Addr) (c : Nat) (v : Int) (l : List Int) (w : World) (hA : Byt w w.heap.size A l) (hl : l.length ≤ 1000000) (h1 : -9223372036854775808 ≤ v) (h2 : v ≤ 9223372036854775807) :
    Calls Tryz.prog 279 #[.slice A l.length c, .int .i64 v] w (Laid w (l ++ sB v)) := by
  have hlen := lenS_ten h1 h2
  have hU := Lib.hid (LenS_any v w h1 h2)
  have hub := sB_len v
  have hall : (l ++ sB v).length ≤ 1000010 := by rw [List.length_append, hub]; omega
  have HG := Lib.hid (grown_any A c (lenS v) l w hA (by omega) (by omega))
  clear hA h1 h2 hub
  have HALL := Lib.hid hall
  clear hall
  go_enter Tryz.func279, Tryz.ntmps279
  go_wp2_with (first | (go_at_call 293; refine hU.out.mono ?_; rintro e w' ⟨rfl, rfl⟩) | (go_at_call 116; refine HG.out.mono ?_; rintro e w1 ⟨v1, rfl, hown1, hb1⟩))
  clear hU HG
  have hB1 := hb1.size
  go_loopw [1, 5] (fun x s wr => ∃ u : Int, x = .int .i64 u ∧ Mid w w.heap.size (l ++ sB v) (sB u) s wr) (fun x _ _ => (intOf x).natAbs)
  case atStart => exact ⟨v, rfl, l, rfl, hown1, hb1, hB1⟩
  case round =>
    obtain ⟨u, rfl, done, hd, hown, hb, hB⟩ := hrel
    have hdl : done.length ≤ 1000010 := by have := HALL.out; rw [← hd, List.length_append] at this; omega
    have HD := Lib.hid hd
    have HO := Lib.hid hown
    have h127 := i64_and127 u
    clear hd hown
    by_cases hlt : -64 ≤ u ∧ u ≤ 63
    · have hla := last_yes hlt
      go_wp2_with (first | (go_at_call 294; refine (last_any _ _).mono ?_; rintro e w' ⟨rfl, rfl⟩) | (at_builtin; refine wp_byte wr rfl (.tmp 22) (.tmp 26) rfl w.heap.size _ done (u % 128) rfl HO.out rfl (by omega) hB ?_; intro v2 w2 ho2 hb2))
      go_ret
      exact Mid.end_ (by have := HD.out; rw [sB_small hlt] at this; exact this) hb ho2 hb2
    · have hla := last_no hlt
      go_wp2_with (first | (go_at_call 294; refine (last_any _ _).mono ?_; rintro e w' ⟨rfl, rfl⟩) | (at_builtin; refine wp_byte wr rfl (.tmp 13) (.tmp 18) rfl w.heap.size _ done (u % 128 + 128) rfl HO.out rfl (by omega) hB ?_; intro v2 w2 ho2 hb2))
      go_roundw
      case rel => exact ⟨u / 128, by go_num, Mid.step (by have := HD.out; rw [sB_great hlt] at this; exact this) hb hB ho2 hb2⟩
      case measure => simp [intOf]; omega
end Go.Proofs.YtffegkjlgeblbaaGreatDoor.Leb

/- The document's two examples, as every statement of layer 1 asks them first: the program lays them as the document says. -/
namespace Go.Proofs.YtffegkjlgeblbaaGreatDoor.Leb
open Go.RowKit

end Go.Proofs.YtffegkjlgeblbaaGreatDoor.Leb

/- A slice of bytes that came in, as a row tells it: it reads as a list of bytes, and lies in memory that was there. -/
namespace Go.Proofs.YtffegkjlgeblbaaGreatDoor.Leb
open Go.RowKit

def Came (k : IntKind) (w : World) (a : Option Addr) (len cap : Nat) (zs : List Int) : Prop :=
  (a = none ∧ len = 0 ∧ cap = 0 ∧ zs = []) ∨
  ∃ x, a = some x ∧ len ≤ cap ∧ cap ≤ maxLen ∧ zs.length = cap ∧ (∀ i, i < zs.length → w.cell? (x.add i) = some (.int k (zs.getD i 0))) ∧ ∀ n ∈ zs, (Lit.int k n).wf = true

end Go.Proofs.YtffegkjlgeblbaaGreatDoor.Leb

/- Small facts that the statements of layer 1 share: a slice that came in, how an answer is told, masks. -/
namespace Go.Proofs.YtffegkjlgeblbaaGreatDoor.Leb
open Go.RowKit

def uV : RU → Int
  | .ok v _ => v
  | _ => 0
def uP (at_ : Nat) : RU → Int
  | .ok _ m => ((at_ + m / 7 : Nat) : Int)
  | _ => 0
def uE : RU → Int
  | .ok _ _ => 0
  | .short => 2
  | .form => 3
theorem ansU_eq (at_ : Nat) (r : RU) : ansU at_ r = .tuple #[.int .u64 (uV r), .int .i64 (uP at_ r), .int .i64 (uE r)] := by cases r <;> rfl
theorem ReadU_is (A : Option Addr) (c bits at_ : Nat) (l : List Int) (w : World) (hA : Byt w w.heap.size A l) (hl : l.length ≤ 1000000) (hby : ∀ x ∈ l, 0 ≤ x ∧ x ≤ 255) (hb1 : 1 ≤ bits) (hb64 : bits ≤ 64) (hat : at_ ≤ l.length) :
    Calls Tryz.prog 111 #[.slice A l.length c, .int .i64 (at_ : Int), .int .i64 (bits : Int)] w fun e w' => e = .returned (.tuple #[.int .u64 (uV (rdl fitU bits (l.drop at_) 0 0)), .int .i64 (uP at_ (rdl fitU bits (l.drop at_) 0 0)), .int .i64 (uE (rdl fitU bits (l.drop at_) 0 0))]) ∧ Below w.heap.size w w' := by
  rw [← ansU_eq]
  exact ReadU_ok A c bits at_ l w hA hl hby hb1 hb64 hat
end Go.Proofs.YtffegkjlgeblbaaGreatDoor.Leb

/- The document's own functions that lay a number in bytes, walked: they hand back the same bytes as the program's. -/
namespace Go.Proofs.YtffegkjlgeblbaaGreatDoor.Leb
open Go.RowKit

set_option maxRecDepth 100000 in
theorem run_bytes (w : World) (ty : TypeId) (B B' : Nat) (v : Value) (done l : List Int) (hown : Own w B v done) (A : Option Addr) (c : Nat) (hA : Byt w B' A l) (hlen : done.length + l.length ≤ 10000000) (hB : B ≤ w.heap.size) :
    ∃ v' w', (Builtin.append_ #[22, 22] ty #[v, .slice A l.length c]).run Tryz.prog w = .ok v' w' ∧ Own w' B v' (done ++ l) ∧ Below B w w' := by
  obtain ⟨i0, hi, hz0, hz1, hz2⟩ := info_parts byte_info
  rcases A with _ | ad
  · have hl : l = [] := by
      rcases l with _ | ⟨x, l⟩
      · rfl
      · obtain ⟨ad, h, _⟩ := hA (by simp)
        cases h
    subst hl
    refine ⟨v, w, ?_, by simpa using hown, Below.refl _ _⟩
    have hu := Tryz.underlying22
    obtain ⟨⟨g, cp, rfl⟩, h1, h2⟩ := hown
    rcases h2 with ⟨e, _⟩ | ⟨g', cp', cur, e, _, _, hn, _⟩
    · cases e
    · injection e with _ _ e
      subst e
      simp [Builtin.append_, run_underlying hu, sizeOf, typeInfo, hi, Builtin.lenOf, Builtin.firstCells, hn, storeCells]
  · have hcells : ∀ j u, (vb l)[j]? = some u → w.cell? (ad.add j) = some u := fun j u hu => by
      have hl : 0 < l.length := by
        rcases l with _ | ⟨x, l⟩
        · simp [vb] at hu
        · simp
      obtain ⟨ad', h, _, hc⟩ := hA hl
      injection h with h
      subst h
      exact hc j u hu
    obtain ⟨v', w', hr, h1, h2, h3⟩ := run_append_own (P := Tryz.prog) w B 22 ty 5 i0 (.int .u8 0) 1 1 Tryz.underlying22 hi hz0 hz1 hz2 rfl (by decide) v _ _ hown.2 ad l.length c (vb l) (by rw [vb_length, Nat.mul_one]) hcells (vb_one l) (by simp only [maxLen]; omega) (by omega) hB
    have h1' : w'.ownsRow B 5 1 v' (done ++ l).length (vb (done ++ l)) := by rw [vb_append, List.length_append]; exact h1
    refine ⟨v', w', hr, ⟨?_, h1'⟩, (Below.refl _ _).grown h2 hB hown.block⟩
    rcases h1'.2 with ⟨e, _⟩ | ⟨g, c', cur, e, _⟩
    · obtain ⟨⟨g, cp, hv⟩, _⟩ := hown
      rw [(h3.1 e).1] at hv
      cases hv
    · exact ⟨g, c', e⟩

theorem wp_bytes {ops : Array Oper} {rest : List Oper} {o : Oper} {a : Act} {Q : Exit → Act → World → Prop} (w : World) (hgd : o.guard = none) (s x : Operand)
    (ho : o.op = .call { callee := .builtin .append, args := #[s, x], argTypes := #[22, 22] }) (B B' : Nat) (v : Value) (done l : List Int) (hs : a.eval s = v) (hown : Own w B v done)
    (A : Option Addr) (c : Nat) (hx : a.eval x = .slice A l.length c) (hA : Byt w B' A l) (hlen : done.length + l.length ≤ 10000000) (hB : B ≤ w.heap.size)
    (h : ∀ v' w', Own w' B v' (done ++ l) → Below B w w' → wpList Tryz.prog ops Q rest (a.put o.dst v') w') : wpList Tryz.prog ops Q (o :: rest) a w := by
  refine wpList_plain hgd fun K hK => ?_
  obtain ⟨v', w', hr, h1, h2⟩ := run_bytes w o.type B B' v done l hown A c hA hlen hB
  unfold Oper.wp
  simp only [execOp, ho, resolve, invoke, builtin, Sem.run_bind, Sem.run_pure, Result.andThen_ok, List.map_toArray, List.map_cons, List.map_nil, hs, hx, hr]
  exact hK _ _ (h v' w' h1 h2)

theorem own_none (w : World) : Own (w.alloc (.cells #[] 5)) w.heap.size (.slice (some ⟨w.heap.size, 0, none⟩) 0 0) [] :=
  ⟨⟨_, _, rfl⟩, by simp [vb], .inr ⟨_, _, _, rfl, Nat.le_refl _, heap_alloc_new w _, Nat.le_refl _, by simp [maxLen], by simp, by simp [vb]⟩⟩

end Go.Proofs.YtffegkjlgeblbaaGreatDoor.Leb

/- LebBack walked: a number that is laid is read as it was, by its width and any greater one; by a lesser one it is not; a byte less is too short. -/
namespace Go.Proofs.YtffegkjlgeblbaaGreatDoor.Leb
open Go.RowKit

theorem uB_byte (v : Nat) : ∀ x ∈ uB v, 0 ≤ x ∧ x ≤ 255 := uB_one v v (Nat.le_refl _)
theorem sB_byte (v : Int) : ∀ x ∈ sB v, 0 ≤ x ∧ x ≤ 255 := sB_one _ v (Nat.le_refl _)
theorem Own.keep {w w' : World} {B : Nat} {v : Value} {l : List Int} (h : Own w B v l) (hb : Below w.heap.size w w') : Own w' B v l :=
  ⟨h.1, h.2.kept ⟨hb.os, hb.tape, hb.output, hb.size, fun k hk _ => hb.block k hk⟩ (row := none) (by cases v.ownBlock <;> simp)⟩

end Go.Proofs.YtffegkjlgeblbaaGreatDoor.Leb

/- LebOrder walked: numbers one behind the other are read as they were laid. -/
namespace Go.Proofs.YtffegkjlgeblbaaGreatDoor.Leb
open Go.RowKit

end Go.Proofs.YtffegkjlgeblbaaGreatDoor.Leb
