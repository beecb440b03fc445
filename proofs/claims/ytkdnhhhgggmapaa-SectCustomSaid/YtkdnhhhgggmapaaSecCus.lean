/- SectCustom walked: sections of a name say nothing: laid in anywhere, the others are split as they were. -/
import Derived.Test.YtkdnhhhgggmapaaSecCut
namespace Go.Proofs.Ytkdnhhhgggmapaa.Sec
open Go.RowKit Utf
set_option maxRecDepth 100000
set_option maxHeartbeats 4000000
set_option linter.unusedVariables false
/-- 'append(s, l...)' as a step of a region that draws its order. -/
theorem step_rowsS {ops : Array Oper} {o : Oper} {a : Act} {K : Act → World → Prop} {Q : Exit → Act → World → Prop} {E : Prop} (w : World) (hgd : o.guard = none) (s x : Operand)
    (ho : o.op = .call { callee := .builtin .append, args := #[s, x], argTypes := #[26, 26] }) (B : Nat) (v : Value) (done l : List (Sct × Value)) (A : Option Addr) (n c m : Nat) (hs : a.eval s = v) (hown : EO w B v done) (hx : a.eval x = .slice A n c)
    (hn : l.length = n) (hl : ScRow w (.slice A n c) l) (hm : done.length + n = m) (hlen : m ≤ 100000) (hB : B ≤ w.heap.size)
    (h : ∀ g c' w', EO w' B (.slice g m c') (done ++ l) → Below B w w' → ((∃ a, v = .slice (some a) 0 0) → Below w.heap.size w w') → K (a.put o.dst (.slice g m c')) w') : if Region.wanted o (yielded ops a.tmps) = true then Oper.wp Try.prog o a w K Q else E := by
  have hw : Region.wanted o (yielded ops a.tmps) = true := by simp [Region.wanted, hgd]
  rw [if_pos hw]
  obtain ⟨g, c', w', hr, h1, h2, h3⟩ := run_rowsS w o.type B v done l hown A n c m hn hl hm hlen hB
  unfold Oper.wp execOp
  simp only [ho, resolve, invoke, builtin, Sem.run_bind, Sem.run_pure, Result.andThen_ok, List.map_toArray, List.map_cons, List.map_nil, hs, hx, hr]
  exact h g c' w' h1 h2 h3
theorem i64_and16 (n : Int) : bits .and .i64 n 65535 = n % 65536 := by
  have h : (BitVec.ofInt 64 65535).toNat = 2 ^ 16 - 1 := by decide
  have key : (BitVec.ofInt 64 n &&& BitVec.ofInt 64 65535).toNat = (n % ((2 ^ 64 : Nat) : Int)).toNat % 2 ^ 16 := by
    rw [BitVec.toNat_and, BitVec.toNat_ofInt, h, Nat.and_two_pow_sub_one_eq_mod]
  show IntKind.i64.wrap ((BitVec.ofInt 64 n &&& BitVec.ofInt 64 65535).toNat : Nat) = n % 65536
  rw [key, IntKind.wrap_i64]
  omega
theorem not_badS {l : List Int} {k : Nat} (h : k ≤ l.length) : ¬ Leb.badArg l (k : Int) 32 := by
  unfold Leb.badArg
  omega
theorem nm_atS {l : List Int} {k : Nat} (h : k ≤ l.length) : nm l (k : Int) = nmK l k := by
  unfold nm
  rw [if_neg (not_badS h), Int.toNat_natCast]
theorem nm_backS (s t : List Int) (hn : s.length ≤ 64) (hf : fltE s = 0) : (nm (Leb.uB s.length ++ s ++ t) 0).2.2 = 0 := by
  have hu : (Leb.uB s.length).length = 1 := by rw [Leb.uB_len, Leb.lenU_small (by omega)]
  have e : nm (Leb.uB s.length ++ s ++ t) 0 = nmK (Leb.uB s.length ++ s ++ t) 0 := nm_atS (k := 0) (by omega)
  rw [e]
  unfold nmK
  rw [List.drop_zero, List.append_assoc, Typ.back32 (by omega)]
  show (nmA _ s.length (0 + 7 * Leb.lenU s.length / 7)).2.2 = 0
  rw [Leb.lenU_small (by omega)]
  unfold nmA
  have hd : ((Leb.uB s.length ++ (s ++ t)).drop (0 + 7 * 1 / 7)).take s.length = s := by
    rw [show 0 + 7 * 1 / 7 = (Leb.uB s.length).length from by rw [hu], List.drop_left, List.take_left]
  rw [if_neg (by rw [List.length_append, List.length_append, hu]; omega), hd, hf]
  rfl
theorem cu_nm {s D : List Int} (h : fltE s = 0) : (nm (cuX s D) 0).2.2 = 0 ∧ (cuX s D).length ≤ 65 + D.length := by
  have hs : s.length ≤ 64 := by
    unfold fltE at h
    by_cases h2 : 64 < s.length
    · rw [decide_eq_true h2] at h; cases h
    · omega
  have hu : (Leb.uB s.length).length = 1 := by rw [Leb.uB_len, Leb.lenU_small (by omega)]
  unfold cuX
  rw [show (fltE s == 0) = true from by rw [h]; rfl]
  refine ⟨?_, ?_⟩
  · show (nm (Leb.uB s.length ++ s ++ D) 0).2.2 = 0
    exact nm_backS s D hs h
  · show (Leb.uB s.length ++ s ++ D).length ≤ _
    rw [List.length_append, List.length_append, hu]
    omega
theorem below_drew {B : Nat} {a b : World} (h : Below B a b) : Below B a b.drew := h.trans ⟨rfl, rfl, rfl, Nat.le_refl _, fun _ _ => rfl⟩
theorem below_alloc0 {a b : World} {o : Obj} (h : Below a.heap.size a b) : Below a.heap.size a (b.alloc o) := h.alloc h.size o
theorem below_mono0 {a b c : World} (h1 : Below a.heap.size a b) (h2 : Below b.heap.size b c) : Below a.heap.size a c := h1.trans (h2.mono h1.size)
theorem size_of0 {a b : World} (h : Below a.heap.size a b) : a.heap.size ≤ b.heap.size := h.size
theorem heap_drewI (w : World) (i : Nat) : w.drew.heap[i]? = w.heap[i]? := rfl
theorem heap_newI {w : World} {o : Obj} {i : Nat} (hi : i = w.heap.size) : (w.alloc o).heap[i]? = some o := by
  subst hi
  exact heap_new w o
theorem heap_oldI {w : World} {o : Obj} {i : Nat} (hi : i < w.heap.size) : (w.alloc o).heap[i]? = w.heap[i]? := ((Below.refl w.heap.size w).alloc (Nat.le_refl _) o).block i hi
theorem drew_size (w : World) : w.drew.heap.size = w.heap.size := rfl
theorem one_rowS {w : World} {g k c : Nat} {P : Option Addr} {x : Int} {X : List Int} (h : w.heap[g]? = some (.cells #[.int .i64 x, .slice P k c] 40)) (hs : Sl w (.slice P k c) X) (hb : ∀ y ∈ X, 0 ≤ y ∧ y < 256) : ScRow w (.slice (some ⟨g, 0, none⟩) 1 1) [((x, X), .slice P k c)] := by
  refine ⟨⟨_, 1, rfl, Nat.le_refl _, by decide, fun _ => ⟨g, 0, rfl, (Array.getElem?_eq_some_iff.1 h).1, fun j p hp => ?_⟩⟩, fun p hp => ?_⟩
  · obtain rfl : j = 0 := by
      have := (List.getElem?_eq_some_iff.1 hp).1
      simpa using this
    obtain rfl := Option.some.inj hp
    exact ⟨(cells_at h 0).1, (cells_at h 1).1⟩
  · obtain rfl := List.mem_singleton.1 hp
    exact ⟨hs, hb⟩
theorem cu_byte {s : ByteArray} {D : List Int} (hD : ∀ x ∈ D, 0 ≤ x ∧ x < 256) : ∀ y ∈ cuX (bl s) D, 0 ≤ y ∧ y < 256 := by
  unfold cuX
  intro y hy
  cases h : (fltE (bl s) == 0) with
  | false => rw [h] at hy; cases hy
  | true =>
    rw [h] at hy
    rcases List.mem_append.1 hy with hy | hy
    · rcases List.mem_append.1 hy with hy | hy
      · have := Leb.uB_byte _ y hy; omega
      · exact bl_byte s y hy
    · exact hD y hy
end Go.Proofs.Ytkdnhhhgggmapaa.Sec
