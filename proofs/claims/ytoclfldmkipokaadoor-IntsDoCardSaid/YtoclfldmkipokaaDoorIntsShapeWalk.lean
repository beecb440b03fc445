/- IntsShape walked: what any operator takes and gives is what the document says. -/
import Derived.Test.YtoclfldmkipokaaDoorIntsShape
import Derived.Laws.BytesArg
namespace Go.Proofs.YtoclfldmkipokaaDoor.Ints
open Go.RowKit
set_option maxRecDepth 100000
set_option maxHeartbeats 400000

theorem nil_txt (w : World) : (convert 23 9 (.slice none 0 0)).run Tryd.prog w = .ok (.string (strOfNums [])) w := by
  rfl
theorem law_none (op : Int) (w : World) (hT : Tab w) (h1 : ShN 14 op) (h2 : ShN 15 op) :
    Calls Tryd.prog 3 #[.int .i64 op] w fun e w' => e = .returned (.bool true) ∧ Below w.heap.size w w' := by
  have HA := Lib.hid awake_any
  have H1 := Lib.hid h1
  have H2 := Lib.hid h2
  have HT := Lib.hid hT
  clear hT h1 h2
  have c0 := nil_txt
  go_enter Tryd.func3, Tryd.ntmps3
  go_wp2_with fail
  refine (HA.out _ HT.out).mono ?_
  rintro e w1 ⟨rfl, b1⟩
  go_wp2_with fail
  refine (H1.out _).mono ?_
  rintro e w' ⟨rfl, rfl⟩
  go_wp2_with fail
  refine (H2.out _).mono ?_
  rintro e w' ⟨rfl, rfl⟩
  go_wp2_with fail
  go_ret
  exact ⟨rfl, b1⟩
theorem run_txt (w : World) (g n : Nat) (l : List Int) (hl : l.length = n) (h : ∀ i, i < n → w.cell? ⟨g, 0 + i, none⟩ = some (.int .u8 (l.getD i 0))) : (convert 23 9 (.slice (some ⟨g, 0, none⟩) n n)).run Tryd.prog w = .ok (.string (strOfNums l)) w :=
  run_convert_bytes_arg w 23 5 Tryd.underlying23 Tryd.underlying5 g 0 n n l hl h 9 Tryd.underlying9
theorem one_a (w : World) (T : Int) : ∀ i, i < 1 → ((w.alloc (.cells #[.int .u8 T] 5)).alloc (.cells #[.int .u8 T] 5)).cell? ⟨w.heap.size, 0 + i, none⟩ = some (.int .u8 ([T].getD i 0)) := by
  intro i hi
  obtain rfl : i = 0 := by omega
  simp [go_sem]
theorem one_b (w : World) (T : Int) : ∀ i, i < 1 → ((w.alloc (.cells #[.int .u8 T] 5)).alloc (.cells #[.int .u8 T] 5)).cell? ⟨w.heap.size + 1, 0 + i, none⟩ = some (.int .u8 ([T].getD i 0)) := by
  intro i hi
  obtain rfl : i = 0 := by omega
  simp [go_sem]
theorem two_a (w : World) (T : Int) : ∀ i, i < 2 → ((w.alloc (.cells #[.int .u8 T, .int .u8 T] 5)).alloc (.cells #[.int .u8 T, .int .u8 T] 5)).cell? ⟨w.heap.size, 0 + i, none⟩ = some (.int .u8 ([T, T].getD i 0)) := by
  intro i hi
  obtain rfl | rfl : i = 0 ∨ i = 1 := by omega
  · simp [go_sem]
  · simp [go_sem]
theorem two_b (w : World) (T : Int) : ∀ i, i < 2 → ((w.alloc (.cells #[.int .u8 T, .int .u8 T] 5)).alloc (.cells #[.int .u8 T, .int .u8 T] 5)).cell? ⟨w.heap.size + 1, 0 + i, none⟩ = some (.int .u8 ([T, T].getD i 0)) := by
  intro i hi
  obtain rfl | rfl : i = 0 ∨ i = 1 := by omega
  · simp [go_sem]
  · simp [go_sem]
theorem law_one (op T G : Int) (w : World) (hT : Tab w) (h1 : Sh1 14 op T G) (h2 : Sh1 15 op T G) :
    Calls Tryd.prog 3 #[.int .i64 op] w fun e w' => e = .returned (.bool true) ∧ Below w.heap.size w w' := by
  have HA := Lib.hid awake_any
  have H1 := Lib.hid h1
  have H2 := Lib.hid h2
  have HT := Lib.hid hT
  clear hT h1 h2
  go_enter Tryd.func3, Tryd.ntmps3
  go_wp2_with fail
  refine (HA.out _ HT.out).mono ?_
  rintro e w1 ⟨rfl, b1⟩
  go_wp2_with fail
  refine (H1.out _).mono ?_
  rintro e w' ⟨rfl, rfl⟩
  go_wp2_with fail
  refine (H2.out _).mono ?_
  rintro e w' ⟨rfl, rfl⟩
  have c1 := run_txt ((w1.alloc (.cells #[.int .u8 T] 5)).alloc (.cells #[.int .u8 T] 5)) w1.heap.size 1 [T] rfl (one_a w1 T)
  have c2 := run_txt ((w1.alloc (.cells #[.int .u8 T] 5)).alloc (.cells #[.int .u8 T] 5)) (w1.heap.size + 1) 1 [T] rfl (one_b w1 T)
  go_wp2_with fail
  go_ret
  exact ⟨rfl, (b1.alloc b1.size _).alloc (Nat.le_trans b1.size (by simp)) _⟩
theorem law_two (op T G : Int) (w : World) (hT : Tab w) (h1 : Sh2 14 op T G) (h2 : Sh2 15 op T G) :
    Calls Tryd.prog 3 #[.int .i64 op] w fun e w' => e = .returned (.bool true) ∧ Below w.heap.size w w' := by
  have HA := Lib.hid awake_any
  have H1 := Lib.hid h1
  have H2 := Lib.hid h2
  have HT := Lib.hid hT
  clear hT h1 h2
  go_enter Tryd.func3, Tryd.ntmps3
  go_wp2_with fail
  refine (HA.out _ HT.out).mono ?_
  rintro e w1 ⟨rfl, b1⟩
  go_wp2_with fail
  refine (H1.out _).mono ?_
  rintro e w' ⟨rfl, rfl⟩
  go_wp2_with fail
  refine (H2.out _).mono ?_
  rintro e w' ⟨rfl, rfl⟩
  have c1 := run_txt ((w1.alloc (.cells #[.int .u8 T, .int .u8 T] 5)).alloc (.cells #[.int .u8 T, .int .u8 T] 5)) w1.heap.size 2 [T, T] rfl (two_a w1 T)
  have c2 := run_txt ((w1.alloc (.cells #[.int .u8 T, .int .u8 T] 5)).alloc (.cells #[.int .u8 T, .int .u8 T] 5)) (w1.heap.size + 1) 2 [T, T] rfl (two_b w1 T)
  go_wp2_with fail
  go_ret
  exact ⟨rfl, (b1.alloc b1.size _).alloc (Nat.le_trans b1.size (by simp)) _⟩
theorem ne_b {a b : Int} (h : a ≠ b) : (a == b) = false := by simpa using h
theorem tk_t {l : Int} (h : l = 69 ∨ (103 ≤ l ∧ l ≤ 105) ∨ 120 < l) : tkB l = true := by
  unfold tkB
  rcases h with h | ⟨h, h'⟩ | h
  · simp [h]
  · simp [h, h']
  · simp [h]
theorem tk_f {l : Int} (h1 : l ≠ 69) (h2 : l < 103 ∨ 105 < l) (h3 : l ≤ 120) : tkB l = false := by
  unfold tkB
  simp [h1]
  omega
theorem fl_a {op : Int} (h : 69 ≤ op ∧ op ≤ 79 ∨ 103 ≤ op ∧ op ≤ 120) : famB op = true ∧ famT op = 127 ∧ famL op = op := ⟨decide_eq_true (by omega), if_pos (by omega), if_pos (by omega)⟩
theorem fl_b {op : Int} (h : 80 ≤ op ∧ op ≤ 90) : famB op = true ∧ famT op = 126 ∧ famL op = op - 11 := ⟨decide_eq_true (by omega), (if_neg (by omega)).trans (if_pos (by omega)), (if_neg (by omega)).trans (if_pos (by omega))⟩
theorem fl_c {op : Int} (h : 121 ≤ op ∧ op ≤ 138) : famB op = true ∧ famT op = 126 ∧ famL op = op - 18 := ⟨decide_eq_true (by omega), (if_neg (by omega)).trans (if_pos (by omega)), (if_neg (by omega)).trans ((if_neg (by omega)).trans (if_pos (by omega)))⟩
theorem gv_c {t l : Int} (h : l ≤ 79) : gvT t l = 127 := if_pos (.inl h)
theorem shape_law (op : Int) (w : World) (hT : Tab w) :
    Calls Tryd.prog 3 #[.int .i64 op] w fun e w' => e = .returned (.bool true) ∧ Below w.heap.size w w' := by
  by_cases ha : 69 ≤ op ∧ op ≤ 79
  · obtain ⟨f1, f2, f3⟩ := fl_a (.inl ha)
    have hk : KindIs op (op - 69) 32 := fun W => kind_a op W ha.1 ha.2
    by_cases h0 : op = 69
    · subst h0
      exact law_one 69 127 127 w hT (shape_one 69 127 127 f1 (by rw [f3]; decide) f2 (by rw [f3]; decide)) (rsh_0 69 32 127 hk (by decide) (by decide) (by decide) of_32)
    · exact law_two op 127 127 w hT (shape_two op 127 127 f1 (by rw [f3]; exact tk_f h0 (by omega) (by omega)) f2 (by rw [f3]; exact gv_c (by omega))) (rsh_c op (op - 69) 32 127 hk (by omega) (by omega) (ne_b (by omega)) (ne_b (by omega)) (ne_b (by omega)) of_32)
  · by_cases hb : 80 ≤ op ∧ op ≤ 90
    · obtain ⟨f1, f2, f3⟩ := fl_b hb
      have hk : KindIs op (op - 80) 64 := fun W => kind_b op W hb.1 hb.2
      by_cases h0 : op = 80
      · subst h0
        exact law_one 80 126 127 w hT (shape_one 80 126 127 f1 (by rw [f3]; decide) f2 (by rw [f3]; decide)) (rsh_0 80 64 126 hk (by decide) (by decide) (by decide) of_64)
      · exact law_two op 126 127 w hT (shape_two op 126 127 f1 (by rw [f3]; exact tk_f (by omega) (by omega) (by omega)) f2 (by rw [f3]; exact gv_c (by omega))) (rsh_c op (op - 80) 64 126 hk (by omega) (by omega) (ne_b (by omega)) (ne_b (by omega)) (ne_b (by omega)) of_64)
    · by_cases hc : 103 ≤ op ∧ op ≤ 120
      · obtain ⟨f1, f2, f3⟩ := fl_a (.inr hc)
        have hk : KindIs op (op - 92) 32 := fun W => kind_c op W hc.1 hc.2
        by_cases h0 : op ≤ 105
        · exact law_one op 127 127 w hT (shape_one op 127 127 f1 (by rw [f3]; exact tk_t (by omega)) f2 (by rw [f3]; exact gv_t (by omega) (by omega))) (rsh_1 op (op - 92) 32 127 hk (by omega) (by omega) (ne_b (by omega)) (ne_b (by omega)) (ne_b (by omega)) of_32)
        · exact law_two op 127 127 w hT (shape_two op 127 127 f1 (by rw [f3]; exact tk_f (by omega) (by omega) (by omega)) f2 (by rw [f3]; exact gv_t (by omega) (by omega))) (rsh_2 op (op - 92) 32 127 hk (by omega) (ne_b (by omega)) (ne_b (by omega)) (ne_b (by omega)) of_32)
      · by_cases hd : 121 ≤ op ∧ op ≤ 138
        · obtain ⟨f1, f2, f3⟩ := fl_c hd
          have hk : KindIs op (op - 110) 64 := fun W => kind_d op W hd.1 hd.2
          by_cases h0 : op ≤ 123
          · exact law_one op 126 126 w hT (shape_one op 126 126 f1 (by rw [f3]; exact tk_t (by omega)) f2 (by rw [f3]; exact gv_t (by omega) (by omega))) (rsh_1 op (op - 110) 64 126 hk (by omega) (by omega) (ne_b (by omega)) (ne_b (by omega)) (ne_b (by omega)) of_64)
          · exact law_two op 126 126 w hT (shape_two op 126 126 f1 (by rw [f3]; exact tk_f (by omega) (by omega) (by omega)) f2 (by rw [f3]; exact gv_t (by omega) (by omega))) (rsh_2 op (op - 110) 64 126 hk (by omega) (ne_b (by omega)) (ne_b (by omega)) (ne_b (by omega)) of_64)
        · by_cases h7 : op = 167
          · subst h7
            exact law_one 167 126 127 w hT (shape_one 167 126 127 (by decide) (by decide) (by decide) (by decide)) rsh_167
          · by_cases he : op = 172 ∨ op = 173
            · refine law_one op 127 126 w hT (shape_one op 127 126 ?_ ?_ ?_ ?_) (rsh_ext op he) <;> (rcases he with rfl | rfl <;> decide)
            · exact law_none op w hT (shape_none op (decide_eq_false (by omega))) (rsh_none op (by unfold noKind; omega) (ne_b h7) (ne_b (by omega)) (ne_b (by omega)))
end Go.Proofs.YtoclfldmkipokaaDoor.Ints
