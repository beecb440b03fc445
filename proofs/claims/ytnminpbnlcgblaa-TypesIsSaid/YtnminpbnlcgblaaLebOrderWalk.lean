/- LebOrder walked: numbers one behind the other are read as they were laid. -/
import Derived.Test.YtnminpbnlcgblaaLebBackParts
namespace Go.Proofs.Ytnminpbnlcgblaa.Leb
open Go.RowKit

/-- A slice of whole numbers that reads as l and lies below block B. -/
def Ints (k : IntKind) (w : World) (B : Nat) (A : Option Addr) (l : List Int) : Prop :=
  0 < l.length → ∃ b off, A = some ⟨b, off, none⟩ ∧ b < B ∧ ∀ (i : Nat) (x : Int), l[i]? = some x → w.cell? ⟨b, off + i, none⟩ = some (.int k x)

theorem Came.ints {k : IntKind} {w : World} {a : Option Addr} {len cap : Nat} {zs : List Int} (h : Came k w a len cap zs) :
    Ints k w w.heap.size a (zs.take len) ∧ (zs.take len).length = len ∧ (∀ x ∈ zs.take len, (Lit.int k x).wf = true) ∧ len ≤ 9223372036854775807 := by
  rcases h with ⟨rfl, rfl, rfl, rfl⟩ | ⟨x, rfl, hl, hm, hz, hc, hw⟩
  · exact ⟨fun h => absurd h (by simp), rfl, by simp, by omega⟩
  · have hlen : (zs.take len).length = len := by rw [List.length_take]; omega
    unfold maxLen at hm
    refine ⟨fun h0 => ?_, hlen, fun y hy => hw y (List.mem_of_mem_take hy), by omega⟩
    have h1 := hc 0 (by omega)
    obtain ⟨b, off, sp⟩ := x
    have hsp : sp = none := by simpa [Addr.add] using World.cell?_spot h1
    subst hsp
    refine ⟨b, off, rfl, ?_, fun i y hy => ?_⟩
    · have := World.block_lt_of_cell? w _ h1
      simpa [Addr.add] using this
    · have hi : i < len := by
        have := (List.getElem?_eq_some_iff.1 hy).1
        omega
      have hci := hc i (by omega)
      rw [show (⟨b, off, none⟩ : Addr).add i = ⟨b, off + i, none⟩ from by unfold Addr.add; split <;> simp_all] at hci
      rw [hci]
      rw [List.getElem?_take, if_pos hi] at hy
      simp [hy]

theorem Ints.at_ {k : IntKind} {w wr : World} {A : Option Addr} {l : List Int} (h : Ints k w w.heap.size A l) (hb : Below w.heap.size w wr) {j : Nat} {x : Int} (hx : l[j]? = some x) :
    ∃ b off, A = some ⟨b, off, none⟩ ∧ wr.cell? ⟨b, off + j, none⟩ = some (.int k x) := by
  obtain ⟨b, off, e, hB, hc⟩ := h (by have := (List.getElem?_eq_some_iff.1 hx).1; omega)
  exact ⟨b, off, e, (hb.cell (p := ⟨b, off + j, none⟩) hB).trans (hc j x hx)⟩

/-- Bytes of numbers one behind the other. -/
def cU (l : List Nat) : List Int := l.flatMap uB
def cS (l : List Int) : List Int := l.flatMap sB
theorem cU_snoc {l : List Nat} {j x : Nat} (h : l[j]? = some x) : cU (l.take (j + 1)) = cU (l.take j) ++ uB x := by
  have hj := (List.getElem?_eq_some_iff.1 h).1
  have e : l[j] = x := (List.getElem?_eq_some_iff.1 h).2
  rw [List.take_succ_eq_append_getElem hj, e]
  simp [cU]
theorem cS_snoc {l : List Int} {j : Nat} {x : Int} (h : l[j]? = some x) : cS (l.take (j + 1)) = cS (l.take j) ++ sB x := by
  have hj := (List.getElem?_eq_some_iff.1 h).1
  have e : l[j] = x := (List.getElem?_eq_some_iff.1 h).2
  rw [List.take_succ_eq_append_getElem hj, e]
  simp [cS]
theorem cU_rest {l : List Nat} {j x : Nat} (post : List Int) (h : l[j]? = some x) : (cU l ++ post).drop (cU (l.take j)).length = uB x ++ (cU (l.drop (j + 1)) ++ post) := by
  have hj := (List.getElem?_eq_some_iff.1 h).1
  have e : l[j] = x := (List.getElem?_eq_some_iff.1 h).2
  have e2 : l = l.take j ++ (x :: l.drop (j + 1)) := by rw [← e, List.getElem_cons_drop, List.take_append_drop]
  have e3 : cU l = cU (l.take j) ++ (uB x ++ cU (l.drop (j + 1))) := by
    conv => lhs; rw [e2]
    simp [cU]
  rw [e3, List.append_assoc, List.drop_left, List.append_assoc]
theorem cS_rest {l : List Int} {j : Nat} {x : Int} (pre : List Int) (h : l[j]? = some x) : (pre ++ cS l).drop (pre ++ cS (l.take j)).length = sB x ++ cS (l.drop (j + 1)) := by
  have hj := (List.getElem?_eq_some_iff.1 h).1
  have e : l[j] = x := (List.getElem?_eq_some_iff.1 h).2
  have e2 : l = l.take j ++ (x :: l.drop (j + 1)) := by rw [← e, List.getElem_cons_drop, List.take_append_drop]
  have e3 : cS l = cS (l.take j) ++ (sB x ++ cS (l.drop (j + 1))) := by
    conv => lhs; rw [e2]
    simp [cS]
  rw [e3, ← List.append_assoc pre, List.drop_left]
theorem cU_le : ∀ (l : List Nat), (∀ x ∈ l, x < 18446744073709551616) → (cU l).length ≤ 10 * l.length
  | [], _ => by simp [cU]
  | x :: l, h => by
    have h1 := cU_le l fun y hy => h y (by simp [hy])
    have h2 := lenU_ten (h x (by simp))
    rw [← uB_len] at h2
    simp only [cU, List.flatMap_cons, List.length_append, List.length_cons] at h1 ⊢
    omega
theorem cS_le : ∀ (l : List Int), (∀ x ∈ l, -9223372036854775808 ≤ x ∧ x ≤ 9223372036854775807) → (cS l).length ≤ 10 * l.length
  | [], _ => by simp [cS]
  | x :: l, h => by
    have h1 := cS_le l fun y hy => h y (by simp [hy])
    have h2 := lenS_ten (h x (by simp)).1 (h x (by simp)).2
    rw [← sB_len] at h2
    simp only [cS, List.flatMap_cons, List.length_append, List.length_cons] at h1 ⊢
    omega
theorem cU_byte (l : List Nat) : ∀ x ∈ cU l, 0 ≤ x ∧ x ≤ 255 := fun x hx => by
  obtain ⟨v, _, hv⟩ := List.mem_flatMap.1 hx
  exact uB_byte v x hv
theorem cS_byte (l : List Int) : ∀ x ∈ cS l, 0 ≤ x ∧ x ≤ 255 := fun x hx => by
  obtain ⟨v, _, hv⟩ := List.mem_flatMap.1 hx
  exact sB_byte v x hv

theorem cU_part {l : List Nat} (j : Nat) (h : ∀ x ∈ l, x < 18446744073709551616) (hl : l.length ≤ 50) : (cU (l.take j)).length ≤ 500 := by
  have h1 := cU_le (l.take j) fun x hx => h x (List.mem_of_mem_take hx)
  have h2 : (l.take j).length ≤ l.length := by rw [List.length_take]; omega
  omega
theorem cS_part {l : List Int} (j : Nat) (h : ∀ x ∈ l, -9223372036854775808 ≤ x ∧ x ≤ 9223372036854775807) (hl : l.length ≤ 50) : (cS (l.take j)).length ≤ 500 := by
  have h1 := cS_le (l.take j) fun x hx => h x (List.mem_of_mem_take hx)
  have h2 : (l.take j).length ≤ l.length := by rw [List.length_take]; omega
  omega

/-- A slice of bytes, wherever it lies. -/
def Acc (w : World) (wr : World) (s : Value) (l : List Int) : Prop := ∃ A c, s = .slice A l.length c ∧ Byt wr wr.heap.size A l ∧ Below w.heap.size w wr
theorem Acc.next {w wr w1 : World} {l : List Int} {A : Option Addr} {c : Nat} {s : Value} (h : Acc w wr (.slice A l.length c) l) {l' : List Int} (ho : Own w1 wr.heap.size s l') (hb : Below wr.heap.size wr w1) : Acc w w1 s l' := by
  obtain ⟨_, _, _, _, hb0⟩ := h
  obtain ⟨A', c', e, hy⟩ := ho.slice
  exact ⟨A', c', e, hy, hb0.trans (hb.mono hb0.size)⟩

theorem orderU (W : World) (A : Option Addr) (c at_ v : Nat) (l rest : List Int) (hA : Byt W W.heap.size A l) (hl : l.length ≤ 1000) (hby : ∀ x ∈ l, 0 ≤ x ∧ x ≤ 255) (hat : at_ ≤ l.length) (hd : l.drop at_ = uB v ++ rest) (hv : v < 18446744073709551616) :
    Calls Try.prog 32 #[.slice A l.length c, .int .i64 (at_ : Int), .int .i64 64] W fun e w' => e = .returned (.tuple #[.int .u64 (v : Int), .int .i64 ((at_ + lenU v : Nat) : Int), .int .i64 0]) ∧ Below W.heap.size W w' := by
  have := ReadU_is A c 64 at_ l W hA (by omega) hby (by omega) (by omega) hat
  rw [hd, rdU_back 64 (by omega) rest v v 0 0 (Nat.le_refl _) (by omega) rfl (by simp), Nat.sub_zero, if_pos hv] at this
  simp only [uV, uP, uE] at this
  rw [show 0 + v * 2 ^ 0 = v from by omega, show at_ + (0 + 7 * lenU v) / 7 = at_ + lenU v from by omega] at this
  exact this
/-- A place behind just these bytes. -/
def Here (p : Nat) (l : List Int) : Prop := p = l.length

end Go.Proofs.Ytnminpbnlcgblaa.Leb
