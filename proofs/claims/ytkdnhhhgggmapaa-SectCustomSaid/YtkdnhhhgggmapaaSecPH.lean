/- The law's first call, walked: awake. -/
import Derived.Test.YtkdnhhhgggmapaaSecPG
namespace Go.Proofs.Ytkdnhhhgggmapaa.Sec
open Go.RowKit Utf
set_option maxRecDepth 100000
set_option maxHeartbeats 4000000
set_option linter.unusedVariables false
/-- What Split tells, its slice written out. -/
def STAt (L : List Sct) (E : Int) (n : Nat) (w : World) (e : Ending) (w' : World) : Prop := ∃ A c l, e = .returned (.tuple #[.slice A n c, .int .i64 E]) ∧ ScRow w' (.slice A n c) l ∧ scL l = L ∧ l.length = n ∧ Below w.heap.size w w'
theorem STold.at_ {b : List Int} {L : List Sct} {E : Int} {n : Nat} {w : World} {e : Ending} {w' : World} (h : STold (split7 b) w e w') (hq : split7 b = (L, E)) (hn : L.length = n) : STAt L E n w e w' := by
  rw [hq] at h
  obtain ⟨v, l, rfl, hr, hl, hb⟩ := h
  simp only at hl
  have hln : l.length = n := by rw [← hn, ← hl, scL_len]
  obtain ⟨⟨A, c, hv, _⟩, _⟩ := id hr
  rw [hln] at hv
  subst hv
  exact ⟨A, c, l, rfl, hr, hl, hln, hb⟩
theorem psplit_at {v : Value} {b : List Int} {L : List Sct} {E : Int} {n : Nat} {w : World} (hs : Sl w v b) (hb : ∀ x ∈ b, 0 ≤ x ∧ x < 256) (hq : split7 b = (L, E)) (hn : L.length = n) : Calls Try.prog 11 #[v] w (STAt L E n w) :=
  (psplit_any hs hb).mono fun e w' h => h.at_ hq hn
theorem rsplit_at {v : Value} {b : List Int} {L : List Sct} {E : Int} {n : Nat} {w : World} (hs : Sl w v b) (hb : ∀ x ∈ b, 0 ≤ x ∧ x < 256) (hq : split7 b = (L, E)) (hn : L.length = n) : Calls Try.prog 12 #[v] w (STAt L E n w) :=
  (rsplit_any hs hb).mono fun e w' h => h.at_ hq hn
theorem up_none : split7 hd8 = ([], 0) := split_join (l := []) rfl (by decide)
theorem up_short : split7 [0, 97, 115, 109] = ([], 2) := rfl
theorem up_may : mayb 0 [(3, [0])] = true := by
  rw [mayb, may1_mk (by decide) (by decide) (by decide)]
  rfl
theorem up_secs : secsB [(3, [0])] = [3, 1, 0] := by
  show 3 :: (Leb.uB 1 ++ [0]) ++ [] = _
  rw [Leb.uB_small (by omega)]
  rfl
theorem up_join : join7 [(3, [0])] = ([0, 97, 115, 109, 1, 0, 0, 0, 3, 1, 0], 0) := by
  rw [join_ok up_may (by rw [up_secs]; decide), up_secs]
  rfl
theorem up_split : split7 [0, 97, 115, 109, 1, 0, 0, 0, 3, 1, 0] = ([(3, [0])], 0) := by
  have := split_join up_may (by rw [up_secs]; decide)
  rw [up_secs] at this
  exact this
theorem up_byte : ∀ x ∈ ([0] : List Int), 0 ≤ x ∧ x < 256 := by decide
theorem up_row (w : World) : ScRow ((w.alloc (.cells #[.int .u8 0] 5)).alloc (.cells #[.int .i64 3, .slice (some ⟨w.heap.size, 0, none⟩) 1 1] 40)) (.slice (some ⟨w.heap.size + 1, 0, none⟩) 1 1) [((3, [0]), .slice (some ⟨w.heap.size, 0, none⟩) 1 1)] := by
  have hb : ((w.alloc (.cells #[.int .u8 0] 5)).alloc (.cells #[.int .i64 3, .slice (some ⟨w.heap.size, 0, none⟩) 1 1] 40)).heap[w.heap.size]? = some (.cells #[.int .u8 0] 5) := by
    rw [show ((w.alloc (.cells #[.int .u8 0] 5)).alloc (.cells #[.int .i64 3, .slice (some ⟨w.heap.size, 0, none⟩) 1 1] 40)).heap[w.heap.size]? = (w.alloc (.cells #[.int .u8 0] 5)).heap[w.heap.size]? from ((Below.refl (w.alloc (.cells #[.int .u8 0] 5)).heap.size _).alloc (Nat.le_refl _) _).block _ (by rw [size_new1]; omega)]
    exact heap_new w _
  have hs : ((w.alloc (.cells #[.int .u8 0] 5)).alloc (.cells #[.int .i64 3, .slice (some ⟨w.heap.size, 0, none⟩) 1 1] 40)).heap[w.heap.size + 1]? = some (.cells #[.int .i64 3, .slice (some ⟨w.heap.size, 0, none⟩) 1 1] 40) := by
    have := heap_new (w.alloc (.cells #[.int .u8 0] 5)) (.cells #[.int .i64 3, .slice (some ⟨w.heap.size, 0, none⟩) 1 1] 40)
    rw [size_new1] at this
    exact this
  refine ⟨⟨_, 1, rfl, Nat.le_refl _, by decide, fun _ => ⟨w.heap.size + 1, 0, rfl, (Array.getElem?_eq_some_iff.1 hs).1, fun j p hp => ?_⟩⟩, fun p hp => ?_⟩
  · obtain rfl : j = 0 := by
      have := (List.getElem?_eq_some_iff.1 hp).1
      simpa using this
    obtain rfl := Option.some.inj hp
    exact ⟨(cells_at hs 0).1, (cells_at hs 1).1⟩
  · obtain rfl := List.mem_singleton.1 hp
    refine ⟨⟨_, 1, rfl, Nat.le_refl _, by decide, fun _ => ⟨w.heap.size, 0, rfl, (Array.getElem?_eq_some_iff.1 hb).1, rfl, fun j hj => ?_⟩⟩, up_byte⟩
    obtain rfl : j = 0 := by simpa using hj
    exact (cells_at hb 0).1
theorem up_len {v : Value} : ∀ p ∈ [(((3, [0]) : Sct), v)], p.1.2.length ≤ 1000000 := fun p hp => by
  obtain rfl := List.mem_singleton.1 hp
  simp
theorem awake_any (w : World) : Calls Try.prog 9 #[] w fun e w' => e = .returned (.bool true) ∧ Below w.heap.size w w' := by
  have kc := fun (W : World) (C : Array Value) (n c : Nat) => Lib.run_convert_bytes_const (P := Try.prog) W 22 5 C n c Try.underlying22 Try.underlying5
  have HM : Hid (Mrk (w.alloc (.cells #[.int .u8 0, .int .u8 97, .int .u8 115, .int .u8 109, .int .u8 1, .int .u8 0, .int .u8 0, .int .u8 0] 5 (8, 9))) w.heap.size (.slice (some ⟨w.heap.size, 0, none⟩) 8 8) hd8) := Lib.hid ⟨w.heap.size, rfl, Nat.le_refl _, heap_new w _⟩
  have HB0 := Lib.hid ((Below.refl w.heap.size w).alloc (Nat.le_refl _) (.cells #[.int .u8 0, .int .u8 97, .int .u8 115, .int .u8 109, .int .u8 1, .int .u8 0, .int .u8 0, .int .u8 0] 5 (8, 9)))
  go_enter Try.func9, Try.ntmps9
  go_wp2_with fail
  refine (psplit_at (HM.out.sl (by decide)) hd8_byte up_none (n := 0) rfl).mono ?_
  rintro en w1 ⟨A1, c1, l1, rfl, _, _, _, hb1⟩
  have HB1 := Lib.hid (HB0.out.trans (hb1.mono HB0.out.size))
  clear hb1
  have HM2 : Hid (Mrk (w1.alloc (.cells #[.int .u8 0, .int .u8 97, .int .u8 115, .int .u8 109] 5 (4, 5))) w1.heap.size (.slice (some ⟨w1.heap.size, 0, none⟩) 4 4) [0, 97, 115, 109]) := Lib.hid ⟨w1.heap.size, rfl, Nat.le_refl _, heap_new w1 _⟩
  have HB1' := Lib.hid (HB1.out.trans (((Below.refl w1.heap.size w1).alloc (Nat.le_refl _) (.cells #[.int .u8 0, .int .u8 97, .int .u8 115, .int .u8 109] 5 (4, 5))).mono HB1.out.size))
  go_wp2_with fail
  refine (psplit_at (HM2.out.sl (by decide)) (by decide) up_short (n := 0) rfl).mono ?_
  rintro en w2 ⟨A2, c2, l2, rfl, _, _, _, hb2⟩
  have HB2 := Lib.hid (HB1'.out.trans (hb2.mono HB1'.out.size))
  clear hb2
  have HROW := Lib.hid (up_row w2)
  have HB2' := Lib.hid ((HB2.out.alloc HB2.out.size (.cells #[.int .u8 0] 5)).alloc (by have := HB2.out.size; rw [size_new1]; omega) (.cells #[.int .i64 3, .slice (some ⟨w2.heap.size, 0, none⟩) 1 1] 40))
  go_wp2_with fail
  refine (pjoin_any (n := 1) rfl HROW.out (by omega) up_len).mono ?_
  rintro en w3 ⟨⟨g3, n3, c3, rfl, hn3, _, hs3⟩, hb3⟩
  rw [show scL [((3, [0]), Value.slice (some ⟨w2.heap.size, 0, none⟩) 1 1)] = [(3, [0])] from rfl, up_join] at hn3 hs3 ⊢
  simp only at hn3 hs3 ⊢
  have h11 : n3 = 11 := hn3
  subst h11
  have HS3 := Lib.hid hs3
  have HB3 := Lib.hid (HB2'.out.trans (hb3.mono HB2'.out.size))
  clear hb3 hs3 hn3
  go_wp2_with fail
  refine (psplit_at HS3.out (by decide) up_split (n := 1) rfl).mono ?_
  rintro en w4 ⟨A4, c4, l4, rfl, hr4, hl4, hn4, hb4⟩
  have HB4 := Lib.hid (HB3.out.trans (hb4.mono HB3.out.size))
  obtain ⟨y, hy⟩ : ∃ y, l4[0]? = some y := ⟨_, List.getElem?_eq_getElem (by omega)⟩
  obtain ⟨g4, off4, rfl, ⟨q1, q2⟩, _⟩ := hr4.at_ hy
  have hy3 : y.1.1 = 3 := by
    have h1 := scL_get hy
    rw [hl4] at h1
    rw [← Option.some.inj h1]
  rw [hy3, Nat.zero_mul, Nat.add_zero] at q1
  clear hr4 hl4 hn4 hb4 hy q2 hy3
  go_wp2_with fail
  exact bodyPost_ret (v := .bool true) (by simp [results, Try.results9, go_sem]) rfl ⟨rfl, HB4.out⟩
end Go.Proofs.Ytkdnhhhgggmapaa.Sec
