/- The program's small functions of layer 9, walked: is it a type, an end; is there what is no type; a clone. -/
import Derived.Test.YtlappkflnlbfcaaStkEl
namespace Go.Proofs.Ytlappkflnlbfcaa.Stk
open Go.RowKit Row9
set_option maxRecDepth 100000
set_option maxHeartbeats 2000000
set_option linter.unusedVariables false
theorem isval_any (x : Int) (w : World) : Calls Try.prog 49 #[.int .u8 x] w fun e w' => e = .returned (.bool (isV x)) ∧ w' = w := by
  unfold isV
  cases hx : (x == 127) <;> cases hy : (x == 126)
  all_goals (
    go_enter Try.func49, Try.ntmps49
    go_wp2_with fail
    first
    | exact bodyPost_ret (v := .bool true) (by simp [results, Try.results49, go_sem]) rfl ⟨rfl, rfl⟩
    | exact bodyPost_ret (v := .bool false) (by simp [results, Try.results49, go_sem]) rfl ⟨rfl, rfl⟩)
theorem not_any (x : Int) (w : World) : Calls Try.prog 44 #[.int .u8 x] w fun e w' => e = .returned (.bool (noT x)) ∧ w' = w := by
  have HC := Lib.hid (isval_any x w)
  unfold noT
  cases hx : (x != 0) with
  | false =>
    rw [Bool.false_and]
    go_enter Try.func44, Try.ntmps44
    go_wp2_with fail
    exact bodyPost_ret (v := .bool false) (by simp [results, Try.results44, go_sem]) rfl ⟨rfl, rfl⟩
  | true =>
    rw [Bool.true_and]
    revert HC
    generalize isV x = q
    intro HC
    go_enter Try.func44, Try.ntmps44
    go_wp2_with fail
    refine HC.out.mono ?_
    rintro e w1 ⟨rfl, rfl⟩
    go_wp2_with fail
    exact bodyPost_ret (v := .bool (!q)) (by simp [results, Try.results44, go_sem]) rfl ⟨rfl, rfl⟩
theorem mayend_any {v : Value} {l : List Int} {w : World} (h : Row elB w v l) : Calls Try.prog 42 #[v] w fun e w' => e = .returned (.bool (mayE l)) ∧ w' = w := by
  obtain ⟨A, c, rfl, hc, hm⟩ := h.form
  match l, h with
  | [], h =>
    clear h
    go_enter Try.func42, Try.ntmps42
    go_wp2_with fail
    exact bodyPost_ret (v := .bool true) (by simp [results, Try.results42, go_sem]) rfl ⟨rfl, rfl⟩
  | [x], h =>
    have HC := Lib.hid (isval_any x w)
    obtain ⟨g, off, rfl, hg, h0, _⟩ := byte_at h (j := 0) (by simp)
    have h0 : w.cell? ⟨g, off, none⟩ = some (.int .u8 x) := h0
    show Calls _ _ _ _ fun e w' => e = .returned (.bool (isV x)) ∧ w' = w
    clear h
    revert HC
    generalize isV x = q
    intro HC
    simp only [List.length_cons, List.length_nil] at hc ⊢
    go_enter Try.func42, Try.ntmps42
    go_wp2_with fail
    refine HC.out.mono ?_
    rintro e w1 ⟨rfl, rfl⟩
    go_wp2_with fail
    exact bodyPost_ret (v := .bool q) (by simp [results, Try.results42, go_sem]) rfl ⟨rfl, rfl⟩
  | x :: y :: r, h =>
    show Calls _ _ _ _ fun e w' => e = .returned (.bool false) ∧ w' = w
    obtain ⟨n, hn⟩ : ∃ n, (x :: y :: r).length = n := ⟨_, rfl⟩
    have hn2 : 2 ≤ n := by rw [← hn]; simp
    rw [hn]
    have t0 : ((n : Int) == 0) = false := by simpa using (show (n : Int) ≠ 0 by omega)
    have t1 : ((n : Int) == 1) = false := by simpa using (show (n : Int) ≠ 1 by omega)
    have t0' : (n == 0) = false := by simpa using (show n ≠ 0 by omega)
    have t1' : (n == 1) = false := by simpa using (show n ≠ 1 by omega)
    clear h hc hn hn2
    go_enter Try.func42, Try.ntmps42
    go_wp2_with fail
    exact bodyPost_ret (v := .bool false) (by simp [results, Try.results42, go_sem]) rfl ⟨rfl, rfl⟩
theorem idx_any {L : List Int} {v : Value} {w : World} (hx : Row elB w v L) :
    Calls Try.prog 50 #[v, .func (.func 44) #[] #[]] w fun e w' => (∃ r : Int, e = .returned (.int .i64 r) ∧ decide (0 ≤ r) = L.any noT) ∧ w' = w := by
  obtain ⟨A, c, rfl, hc, hm⟩ := hx.form
  have hrun : ∀ args W, (callFunc 44 args).run Try.prog W = .ok (.enter 44 args) W := fun args W => Stab.run_enter Try.func44 (by kernel_rfl) rfl args W
  obtain ⟨n, hn⟩ : ∃ n, L.length = n := ⟨_, rfl⟩
  rw [hn] at hx hc ⊢
  have N1 := Lib.hid hn
  have HX := Lib.hid hx
  have hbig : n ≤ 9223372036854775807 := by omega
  clear hn hx hc hm
  go_enter Try.func50, Try.ntmps50
  go_wp2_with fail
  go_loopw [8] (fun j' wr => ∃ k : Nat, j' = .int .i64 (k : Int) ∧ k ≤ n ∧ (∀ i, i < k → noT (L.getD i 0) = false) ∧ wr = w) (fun j' _ => n - (intOf j').toNat)
  case atStart => exact ⟨0, by go_num, Nat.zero_le _, fun i hi => absurd hi (by omega), rfl⟩
  case round =>
    obtain ⟨k, rfl, hk, ht, rfl⟩ := hrel
    have HT := Lib.hid ht
    clear ht
    by_cases hlt : k < n
    · obtain ⟨g1, p1, rfl, _, hc1, _⟩ := byte_at HX.out (j := k) (by rw [N1.out]; exact hlt)
      have hin1 : (0 : Int) ≤ (k : Int) := by omega
      have hin2 : (k : Int) < (n : Int) := by omega
      have hw1 : IntKind.i64.wrap ((k : Int) + 1) = (k : Int) + 1 := IntWalk.i64_in _ (by omega)
      obtain ⟨u, hu⟩ : ∃ u, L.getD k 0 = u := ⟨_, rfl⟩
      rw [hu] at hc1
      have HU := Lib.hid hu
      clear hu
      have HC := Lib.hid (not_any u wr)
      cases hq : noT u with
      | true =>
        rw [hq] at HC
        have HQ : Hid (decide (0 ≤ (k : Int)) = L.any noT) := by
          show _ = _
          rw [decide_eq_true hin1]
          exact (List.any_eq_true.2 ⟨u, by rw [← HU.out, List.getD_eq_getElem?_getD, List.getElem?_eq_getElem (by rw [N1.out]; exact hlt)]; exact List.getElem_mem _, hq⟩).symm
        clear hq
        go_wp2_with fail
        refine HC.out.mono ?_
        rintro e w1 ⟨rfl, rfl⟩
        go_wp2_with fail
        exact bodyPost_ret (v := .int .i64 (k : Int)) (by simp [results, Try.results50, go_sem]) rfl ⟨⟨_, rfl, HQ.out⟩, rfl⟩
      | false =>
        rw [hq] at HC
        have HQ : Hid (∀ i, i < k + 1 → noT (L.getD i 0) = false) := fun i hi => by
          by_cases e : i = k
          · subst e; rw [HU.out]; exact hq
          · exact HT.out i (by omega)
        clear hq
        go_wp2_with fail
        refine HC.out.mono ?_
        rintro e w1 ⟨rfl, rfl⟩
        go_wp2_with fail
        go_roundw
        case rel => exact ⟨k + 1, by go_num, hlt, (fun i hi => HQ.out i hi), by first | rfl | trivial⟩
        case measure => simp [intOf]; omega
    · obtain rfl : k = n := by omega
      have HQ : Hid (decide (0 ≤ (-1 : Int)) = L.any noT) := by
        show _ = _
        rw [decide_eq_false (by decide)]
        symm
        rw [List.any_eq_false]
        intro x hx
        obtain ⟨i, hi⟩ := List.getElem?_of_mem hx
        have hil := (List.getElem?_eq_some_iff.1 hi).1
        have := HT.out i (by rw [← N1.out]; exact hil)
        rw [List.getD_eq_getElem?_getD, hi] at this
        simpa using this
      go_wp2_with fail
      exact bodyPost_ret (v := .int .i64 (-1)) (by simp [results, Try.results50, go_sem]) rfl ⟨⟨_, rfl, HQ.out⟩, rfl⟩
theorem con_any {L : List Int} {v : Value} {w : World} (hx : Row elB w v L) :
    Calls Try.prog 43 #[v, .func (.func 44) #[] #[]] w fun e w' => e = .returned (.bool (L.any noT)) ∧ w' = w := by
  have HC := Lib.hid (idx_any hx)
  generalize L.any noT = q at HC ⊢
  clear hx
  go_enter Try.func43, Try.ntmps43
  go_wp2_with fail
  refine HC.out.mono ?_
  rintro e w1 ⟨⟨r, rfl, hr⟩, rfl⟩
  have HR := Lib.hid hr
  clear hr
  go_wp2_with fail
  exact bodyPost_ret (v := .bool (decide (0 ≤ r))) (by simp [results, Try.results43, go_sem]) rfl ⟨by rw [HR.out], rfl⟩
theorem stop_ {P : Prop} (h : Hid P) : P := h
/-- Clone: nil of nil, else bytes of the call's own. -/
theorem clone_any {D : List Int} {v : Value} {w : World} (hx : Row elB w v D) (hl : D.length ≤ 1000000) : Calls Try.prog 41 #[v] w fun e w' => (∃ v', e = .returned v' ∧ Own elB w' w.heap.size v' D) ∧ Below w.heap.size w w' := by
  obtain ⟨A, c, rfl, hc, hm⟩ := hx.form
  obtain ⟨n, hn⟩ : ∃ n, D.length = n := ⟨_, rfl⟩
  rw [hn] at hx hl ⊢
  rcases A with _ | ad
  · have hD : D = [] := by
      rcases D with _ | ⟨x, D⟩
      · rfl
      · obtain ⟨g, off, h, _⟩ := byte_at hx (j := 0) (by simp)
        cases h
    subst hD
    clear hx hl hn hc hm
    have heq : ∀ W, (binOp .eql 22 (.slice none n c) (.slice none 0 0)).run Try.prog W = .ok (.bool true) W := fun W => run_eql_slice_nil W _ _ none n c Try.underlying22
    go_enter Try.func41, Try.ntmps41
    go_wp2_with fail
    exact bodyPost_ret (v := .slice none 0 0) (by simp [results, Try.results41, go_sem]) rfl ⟨⟨_, rfl, own_nil _ _ _⟩, Below.refl _ _⟩
  · have HX := Lib.hid hx
    have HN := Lib.hid hn
    have HW := Lib.hid ((Below.refl w.heap.size w).alloc (Nat.le_refl _) (.cells #[] 5))
    have heq : ∀ W, (binOp .eql 22 (.slice (some ad) n c) (.slice none 0 0)).run Try.prog W = .ok (.bool false) W := fun W => run_eql_slice_nil W _ _ (some ad) n c Try.underlying22
    clear hx hn hc hm
    go_enter Try.func41, Try.ntmps41
    go_wp2_with (at_builtin; refine stop_ ?_)
    refine Lib.hid ?_
    refine wp_rowsG elB 22 Try.underlying22 _ rfl (.tmp 5) (.tmp 6) rfl w.heap.size _ _ [] D rfl (own_new elB w) rfl (HX.out.keep HW.out) (by rw [HN.out]; simp; omega) (by decide) HW.out.size ?_
    intro v1 w1 ho1 hb1 _
    rw [List.nil_append] at ho1
    obtain ⟨P, c1, hv⟩ := ho1.form
    rw [HN.out] at hv
    subst hv
    have HO := Lib.hid ho1
    have HB := Lib.hid (HW.out.trans hb1)
    clear ho1 hb1
    go_wp2_with fail
    exact bodyPost_ret (v := .slice P n c1) (by simp [results, Try.results41, go_sem]) rfl ⟨⟨_, rfl, HO.out⟩, HB.out⟩
/-- Clone of what is open. -/
theorem clonec_any {D : List CtV} {v : Value} {w : World} (hx : Row elP w v D) (hl : D.length ≤ 1000000) : Calls Try.prog 51 #[v] w fun e w' => (∃ v', e = .returned v' ∧ Own elP w' w.heap.size v' D) ∧ Below w.heap.size w w' := by
  obtain ⟨A, c, rfl, hc, hm⟩ := hx.form
  obtain ⟨n, hn⟩ : ∃ n, D.length = n := ⟨_, rfl⟩
  rw [hn] at hx hl ⊢
  rcases A with _ | ad
  · have hD : D = [] := by
      rcases D with _ | ⟨x, D⟩
      · rfl
      · obtain ⟨g, off, h, _⟩ := ctl_at hx (j := 0) rfl
        cases h
    subst hD
    clear hx hl hn hc hm
    have heq : ∀ W, (binOp .eql 28 (.slice none n c) (.slice none 0 0)).run Try.prog W = .ok (.bool true) W := fun W => run_eql_slice_nil W _ _ none n c Try.underlying28
    go_enter Try.func51, Try.ntmps51
    go_wp2_with fail
    exact bodyPost_ret (v := .slice none 0 0) (by simp [results, Try.results51, go_sem]) rfl ⟨⟨_, rfl, own_nil _ _ _⟩, Below.refl _ _⟩
  · have HX := Lib.hid hx
    have HN := Lib.hid hn
    have HW := Lib.hid ((Below.refl w.heap.size w).alloc (Nat.le_refl _) (.cells #[] 46))
    have heq : ∀ W, (binOp .eql 28 (.slice (some ad) n c) (.slice none 0 0)).run Try.prog W = .ok (.bool false) W := fun W => run_eql_slice_nil W _ _ (some ad) n c Try.underlying28
    clear hx hn hc hm
    go_enter Try.func51, Try.ntmps51
    go_wp2_with (at_builtin; refine stop_ ?_)
    refine Lib.hid ?_
    refine wp_rowsG elP 28 Try.underlying28 _ rfl (.tmp 5) (.tmp 6) rfl w.heap.size _ _ [] D rfl (own_new elP w) rfl (HX.out.keep HW.out) (by rw [HN.out]; simp; omega) (by decide) HW.out.size ?_
    intro v1 w1 ho1 hb1 _
    rw [List.nil_append] at ho1
    obtain ⟨P, c1, hv⟩ := ho1.form
    rw [HN.out] at hv
    subst hv
    have HO := Lib.hid ho1
    have HB := Lib.hid (HW.out.trans hb1)
    clear ho1 hb1
    go_wp2_with fail
    exact bodyPost_ret (v := .slice P n c1) (by simp [results, Try.results51, go_sem]) rfl ⟨⟨_, rfl, HO.out⟩, HB.out⟩
end Go.Proofs.Ytlappkflnlbfcaa.Stk
