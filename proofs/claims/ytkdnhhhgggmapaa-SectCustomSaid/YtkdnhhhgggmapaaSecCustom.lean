/- A section of a name, by the document. -/
import Derived.Test.YtkdnhhhgggmapaaSecSplitC
namespace Go.Proofs.Ytkdnhhhgggmapaa.Sec
open Go.RowKit Utf
set_option maxRecDepth 100000
set_option maxHeartbeats 4000000
set_option linter.unusedVariables false
theorem heap_new (w : World) (o : Obj) : (w.alloc o).heap[w.heap.size]? = some o := by
  simp only [World.alloc]
  exact Array.getElem?_push_size
theorem size_new1 (w : World) (o : Obj) : (w.alloc o).heap.size = w.heap.size + 1 := by simp
theorem cells_at {w : World} {g : Nat} {cur : Array Value} {e : TypeId} (h : w.heap[g]? = some (.cells cur e (0, 0))) (i : Nat) : w.cell? ⟨g, i, none⟩ = cur[i]? ∧ w.frozen? ⟨g, i, none⟩ = false := by
  refine ⟨?_, ?_⟩
  · simp only [World.cell?, h]; rfl
  · simp only [World.frozen?, h]; simp
/-- What Custom tells. -/
def CTold (w : World) (s D : List Int) (e : Ending) (w' : World) : Prop :=
  ((fltE s = 0 ∧ ∃ v, e = .returned (.tuple #[.agg #[.int .i64 0, v], .int .i64 0]) ∧ Sl w' v (Leb.uB s.length ++ s ++ D)) ∨ (fltE s ≠ 0 ∧ e = .returned (.tuple #[.agg #[.int .i64 0, .slice none 0 0], .int .i64 (fltE s)]))) ∧ Below w.heap.size w w'
theorem rcustom_err {v : Value} {s : ByteArray} {D : List Int} {w : World} (hs : s.size ≤ 1000) (hE : fltE (bl s) ≠ 0) : Calls Try.prog 19 #[.string s, v] w (CTold w (bl s) D) := by
  have HE := Lib.hid hE
  have HL := Lib.hid (dlay_any (.slice none 0 0) [] s (w.alloc (.cells #[.int .i64 0, .slice none 0 0] 43)) (Sl.nil _) (by simp) hs)
  have HS := Lib.hid hs
  obtain ⟨E, hEq⟩ : ∃ E, fltE (bl s) = E := ⟨_, rfl⟩
  have HEq := Lib.hid hEq
  have hE1 : (E != 0) = true := by rw [← hEq]; simpa using hE
  clear hs hE hEq
  go_enter Try.func19, Try.ntmps19
  go_wp2_with fail
  refine HL.out.mono ?_
  rintro en w1 ⟨hL, hb1⟩
  rcases hL with ⟨h0, _⟩ | ⟨_, rfl⟩
  · exact absurd h0 HE.out
  · rw [HEq.out]
    have hc : w1.heap[w.heap.size]? = some (.cells #[.int .i64 0, .slice none 0 0] 43) := by
      rw [hb1.block _ (by simp)]
      exact heap_new w _
    have z0 : w1.cell? ⟨w.heap.size, 0, none⟩ = some (.int .i64 0) := (cells_at hc 0).1
    have y0 : w1.frozen? ⟨w.heap.size, 0, none⟩ = false := (cells_at hc 0).2
    have z1 : w1.cell? ⟨w.heap.size, 1, none⟩ = some (.slice none 0 0) := (cells_at hc 1).1
    have y1 : w1.frozen? ⟨w.heap.size, 1, none⟩ = false := (cells_at hc 1).2
    have HB1 : Hid (Below w.heap.size w w1) := Lib.hid (((Below.refl w.heap.size w).alloc (Nat.le_refl _) (.cells #[.int .i64 0, .slice none 0 0] 43)).trans (hb1.mono (by simp)))
    clear hb1 hc
    go_wp2_with fail
    refine bodyPost_ret (v := .tuple #[.agg #[.int .i64 0, .slice none 0 0], .int .i64 E]) (by simp [results, Try.results19, go_sem, z0, z1]) rfl ⟨.inr ⟨HE.out, by rw [HEq.out]⟩, ?_⟩
    repeat (first | exact HB1.out | refine Below.setCell ?_ (by simp) _ | refine Below.setCell ?_ _ _)
theorem sl_bytA {w : World} {A : Option Addr} {n c : Nat} {D : List Int} (h : Sl w (.slice A n c) D) : Leb.Byt w w.heap.size A D := by
  intro h0
  obtain ⟨A', c', h1, h2, h3, h4⟩ := id h
  injection h1 with e1 e2 e3
  subst e1
  obtain ⟨g, off, e, _⟩ := h4 (fun e => by rw [e] at h0; simp at h0)
  subst e
  exact sl_byt h h0
theorem rcustom_ok {A : Option Addr} {n c : Nat} {s : ByteArray} {D : List Int} {w : World} (hs : s.size ≤ 1000) (hE : fltE (bl s) = 0) (hn : D.length = n) (hD : n ≤ 1000000) (hv : Sl w (.slice A n c) D) : Calls Try.prog 19 #[.string s, .slice A n c] w (CTold w (bl s) D) := by
  have HE := Lib.hid hE
  have HL := Lib.hid (dlay_any (.slice none 0 0) [] s (w.alloc (.cells #[.int .i64 0, .slice none 0 0] 43)) (Sl.nil _) (by simp) hs)
  have HLe := Lib.hid (bl_len s)
  have HU : Hid ((Leb.uB (bl s).length).length ≤ 1000000) := Lib.hid (by rw [Leb.uB_len]; have := Leb.lenU_ten (v := (bl s).length) (by rw [bl_len]; omega); omega)
  have HS := Lib.hid hs
  have HNn := Lib.hid hn
  have HA := Lib.hid (sl_bytA hv)
  clear hs hE hv hn
  go_enter Try.func19, Try.ntmps19
  go_wp2_with fail
  refine HL.out.mono ?_
  rintro en w1 ⟨hL, hb1⟩
  rcases hL with ⟨_, v1, rfl, ho1⟩ | ⟨h0, _⟩
  · have hB1 : Below w.heap.size w w1 := ((Below.refl w.heap.size w).alloc (Nat.le_refl _) (.cells #[.int .i64 0, .slice none 0 0] 43)).trans (hb1.mono (by simp))
    have hc : w1.heap[w.heap.size]? = some (.cells #[.int .i64 0, .slice none 0 0] 43) := by
      rw [hb1.block _ (by simp)]
      exact heap_new w _
    have HB1 := Lib.hid hB1
    have HC1 := Lib.hid hc
    have HO1 := Lib.hid ho1
    have HZ := Lib.hid hb1.size
    have HAW := Lib.hid (HA.out.keep hB1)
    clear hb1 hc ho1 hB1
    go_wp2_with (at_builtin; refine stop_ ?_)
    refine Lib.hid ?_
    refine Leb.wp_bytes _ rfl (.tmp 17) (.tmp 18) rfl _ w.heap.size _ _ D rfl HO1.out A c ?_ HAW.out ?_ HZ.out ?_
    focus (rw [HNn.out]; rfl)
    focus (have := HU.out; have := HLe.out; have := HS.out; rw [HNn.out]; simp only [List.length_append, List.length_nil]; omega)
    intro v2 w2 ho2 hb2
    rw [List.nil_append] at ho2
    obtain ⟨⟨g2, c2, rfl⟩, _⟩ := id ho2
    have hc : w2.heap[w.heap.size]? = some (.cells #[.int .i64 0, .slice none 0 0] 43) := (hb2.block _ (by simp)).trans HC1.out
    have z0 : w2.cell? ⟨w.heap.size, 0, none⟩ = some (.int .i64 0) := (cells_at hc 0).1
    have y0 : w2.frozen? ⟨w.heap.size, 0, none⟩ = false := (cells_at hc 0).2
    have z1 : w2.cell? ⟨w.heap.size, 1, none⟩ = some (.slice none 0 0) := (cells_at hc 1).1
    have y1 : w2.frozen? ⟨w.heap.size, 1, none⟩ = false := (cells_at hc 1).2
    have HB2 : Hid (Below w.heap.size w w2) := Lib.hid (HB1.out.trans (hb2.mono (by simp)))
    have HO2 := Lib.hid ho2
    clear hb2 hc ho2
    revert HO2
    generalize hLL : Leb.uB (bl s).length ++ bl s ++ D = LL
    intro HO2
    have HLL := Lib.hid hLL
    clear hLL
    go_wp2_with fail
    refine bodyPost_ret (v := .tuple #[.agg #[.int .i64 0, .slice (some ⟨g2, 0, none⟩) LL.length c2], .int .i64 0]) (by simp [results, Try.results19, go_sem, z0, z1]) rfl ⟨.inl ⟨HE.out, _, rfl, ?_⟩, ?_⟩
    · rw [HLL.out]
      refine own_sl8 ⟨HO2.out.1, own_stay HO2.out.2 fun k hk => ?_⟩
      have hkk := (World.ownsRow.lt HO2.out.2 k hk).1
      rw [size_new1] at hkk
      repeat rw [Below.heap_setCell _ _ _ _ (by simp only; omega)]
    · repeat (first | exact HB2.out | refine Below.setCell ?_ (by simp) _)
  · exact absurd HE.out h0
end Go.Proofs.Ytkdnhhhgggmapaa.Sec
