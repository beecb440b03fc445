/- ModPRun, ModWSec, ModWLaid, ModWLImport. -/
import Derived.Test.YtffegkjlgeblbaaGreatDoorPkModSFElem
import Derived.Test.YtffegkjlgeblbaaGreatDoorPkModWLI
import Derived.Test.YtffegkjlgeblbaaGreatDoorPkSecPH
section
/- Runs of bytes, by the program: walked. -/
namespace Go.Proofs.YtffegkjlgeblbaaGreatDoor.Mdl
open Go.RowKit Ints Typ Ins
set_option maxRecDepth 100000
set_option maxHeartbeats 4000000
set_option linter.unusedVariables false
theorem runs_last (l : List Int) (j : Nat) (h : j < l.length) : ∃ q c, runs (l.take (j + 1)) = q ++ [(c, l.getD j 0)] := by
  rw [runs_take h]
  rcases List.eq_nil_or_concat (runs (l.take j)) with e | ⟨q, ⟨c, y⟩, e⟩
  · rw [e, rstep_new]
    exact ⟨[], 1, rfl⟩
  · rw [e, List.concat_eq_append]
    by_cases hy : y = l.getD j 0
    · subst hy
      rw [rstep_more]
      exact ⟨q, c + 1, rfl⟩
    · rw [rstep_other _ _ _ _ hy]
      exact ⟨q ++ [(c, y)], 1, rfl⟩
theorem pruns_any {A : Option Addr} {n c : Nat} {l : List Int} {w : World} (hn : l.length = n) (hs : Utf.Sl w (.slice A n c) l) (hb : ∀ y ∈ l, 0 ≤ y ∧ y < 256) (hl : n ≤ 100000) :
    Calls Tryz.prog 18 #[.slice A n c] w fun e w' => (∃ v, e = .returned v ∧ RowG.Own elP w' w.heap.size v (runs l)) ∧ Below w.heap.size w w' := by
  have HN := Lib.hid hn
  have HS := Lib.hid hs
  have HBB := Lib.hid hb
  clear hn hs hb
  go_enter Tryz.func18, Tryz.ntmps18
  go_wp2_with fail
  go_loopw [3, 8] (fun u i' wr => ∃ (i : Nat), i' = .int .i64 (i : Int) ∧ i ≤ n ∧ RowG.Own elP wr w.heap.size u (runs (l.take i)) ∧ Below w.heap.size w wr) (fun _ i' _ => n - (intOf i').toNat)
  case atStart => exact ⟨0, by go_num, by omega, RowG.own_nil _ _ _, Below.refl _ _⟩
  case round =>
    obtain ⟨i, rfl, hi, hO, hW⟩ := hrel
    have HO := Lib.hid hO
    have HW := Lib.hid hW
    clear hO hW
    by_cases hlt : i < n
    · have HT := Lib.hid (runs_take (l := l) (i := i) (by rw [HN.out]; exact hlt))
      have hsm := runs_small (l.take i)
      rw [List.length_take] at hsm
      obtain ⟨x, hx⟩ : ∃ x, l.getD i 0 = x := ⟨_, rfl⟩
      have hx2 : 0 ≤ x ∧ x < 256 := by
        rw [← hx, List.getD_eq_getElem?_getD, List.getElem?_eq_getElem (by rw [HN.out]; exact hlt)]
        exact HBB.out _ (List.getElem_mem _)
      obtain ⟨g, off, rfl, _⟩ : ∃ g off, A = some ⟨g, off, none⟩ ∧ True := by
        obtain ⟨A', c', e, _, _, h4⟩ := HS.out
        obtain ⟨g, off, e', _⟩ := h4 (fun e => by have := HN.out; rw [e] at this; simp at this; omega)
        injection e with e1 _ _
        exact ⟨g, off, e1.trans e', trivial⟩
      have HCL : Hid (∀ k, k < n → wr.cell? ⟨g, off + k, none⟩ = some (.int .u8 (l.getD k 0))) := Lib.hid fun k hk => Sec.sl_cell (HS.out.keep HW.out) (by rw [HN.out]; exact hk)
      have c1 := HCL.out i hlt
      rw [hx] at HT c1
      clear hx
      have i1 : (0 : Int) ≤ (i : Int) := by omega
      have i2 : (i : Int) < (n : Int) := by omega
      have hw1 : IntKind.i64.wrap ((i : Int) + 1) = (i : Int) + 1 := IntWalk.i64_in _ (by omega)
      have hw0 : IntKind.i64.wrap x = x := IntWalk.i64_in _ (by omega)
      have HSM := Lib.hid hsm
      by_cases hi0 : i = 0
      · have HV : Hid (runs (l.take (i + 1)) = [] ++ [(1, x)]) := Lib.hid (by rw [HT.out, hi0]; rfl)
        have HO2 : Hid (RowG.Own elP wr w.heap.size u3 []) := by have := HO.out; rw [hi0] at this; exact Lib.hid this
        have t3 : decide ((0 : Int) < (i : Int)) = false := decide_eq_false (by omega)
        have t4 : decide (0 < i) = false := decide_eq_false (by omega)
        clear hi0
        have hv : ∃ P cv, u3 = .slice P 0 cv := by
          obtain ⟨P, cv, e⟩ := HO2.out.form
          exact ⟨P, cv, e⟩
        obtain ⟨P, cv, rfl⟩ := hv
        clear hsm
        go_wp2_with (at_builtin; refine Sec.stop_ ?_)
        refine Lib.hid ?_
        refine RowG.wp_oneG elP 43 Tryz.underlying43 _ rfl (.tmp 34) (.tmp 38) rfl w.heap.size _ [] (1, x) trivial rfl ?_ wr.heap.size ?_ (new_pair _ 1 x) ?_ (by decide) ?_ ?_
        focus (exact RowG.own_keep HO2.out ((Below.refl _ _).alloc (Nat.le_refl _) _))
        focus rfl
        focus (exact Nat.zero_le _)
        focus (exact (HW.out.alloc HW.out.size _).size)
        intro v3 w3 ho3 hb3 hk3
        rw [← HV.out] at ho3
        have HO3 := Lib.hid ho3
        have HW3 := Lib.hid ((HW.out.alloc HW.out.size _).trans hb3)
        clear ho3 hb3 hk3
        go_wp2_with fail
        go_roundw
        case rel => exact ⟨i + 1, by go_num, hlt, HO3.out, HW3.out⟩
        case measure => simp [intOf]; omega
      · obtain ⟨j, hj⟩ : ∃ j, i = j + 1 := ⟨i - 1, by omega⟩
        obtain ⟨q, cc, hq⟩ := runs_last l j (by rw [HN.out]; omega)
        rw [← hj] at hq
        have c2 := HCL.out j (by omega)
        obtain ⟨y, hy0⟩ : ∃ y, l.getD j 0 = y := ⟨_, rfl⟩
        rw [hy0] at hq c2
        rw [hq] at HO HT HSM hsm
        clear hy0 hq
        have hv : ∃ g2 cv, u3 = .slice (some ⟨g2, 0, none⟩) (q.length + 1) cv := by
          obtain ⟨_, ⟨_, e⟩ | ⟨g2, cv, cur, e, _⟩⟩ := id HO.out
          · simp at e
          · exact ⟨g2, cv, by rw [e, List.length_append]; rfl⟩
        obtain ⟨g2, cv, rfl⟩ := hv
        have hp := own_pair HO.out
        obtain ⟨k, hk⟩ : ∃ k, q.length = k := ⟨_, rfl⟩
        have HKQ := Lib.hid hk
        have hcc := hsm.2 (cc, y) (by simp)
        simp only at hcc
        have hk30 : k + 1 ≤ i := by have := hsm.1; rw [List.length_append, List.length_singleton, hk] at this; omega
        rw [hk] at hp HO ⊢
        clear hsm hk
        obtain ⟨d0, _, d2, hB2⟩ := hp
        have HB2 := Lib.hid hB2
        clear hB2
        have hwj : IntKind.i64.wrap ((i : Int) - 1) = (j : Int) := by rw [show (i : Int) - 1 = (j : Int) from by omega]; exact IntWalk.i64_in _ (by omega)
        have hwj2 : IntKind.i64.wrap (j : Int) = (j : Int) := IntWalk.i64_in _ (by omega)
        have j1 : (0 : Int) ≤ (j : Int) := by omega
        have j2 : (j : Int) < (n : Int) := by omega
        have j3 : decide ((0 : Int) < (i : Int)) = true := decide_eq_true (by omega)
        have j4 : decide (0 < i) = true := decide_eq_true (by omega)
        have hwk : IntKind.i64.wrap ((k : Int) + 1 - 1) = (k : Int) := by rw [Int.add_sub_cancel]; exact IntWalk.i64_in _ (by omega)
        have hwk2 : IntKind.i64.wrap (k : Int) = (k : Int) := IntWalk.i64_in _ (by omega)
        have k1 : (0 : Int) ≤ (k : Int) := by omega
        have k2 : (k : Int) < (k : Int) + 1 := by omega
        have hwc : IntKind.i64.wrap (cc + 1) = cc + 1 := IntWalk.i64_in _ (by omega)
        clear hj hi0
        by_cases hy : x = y
        · have t1 : (x == y) = true := by simpa using hy
          have HV : Hid (runs (l.take (i + 1)) = q ++ [(cc + 1, y)]) := Lib.hid (by rw [HT.out, hy, rstep_more])
          go_wp2_with fail
          go_region
          all_goals (
            go_wp2_with fail
            go_roundw
            case rel => exact ⟨i + 1, by go_num, hlt, by rw [HV.out]; exact RowG.own_keep (own_setP HO.out HKQ.out (flat_set q cc y (cc + 1))) (Sec.drewB _), (HW.out.setCell (p := ⟨g2, k * 2, none⟩) HB2.out (.int .i64 (cc + 1))).trans ⟨rfl, rfl, rfl, Nat.le_refl _, fun _ _ => rfl⟩⟩
            case measure => simp [intOf]; omega)
        · have t1 : (x == y) = false := by simpa using hy
          have HV : Hid (runs (l.take (i + 1)) = q ++ [(cc, y)] ++ [(1, x)]) := Lib.hid (by rw [HT.out, rstep_other _ _ _ _ (fun e => hy e.symm)])
          go_wp2_with (at_builtin; refine Sec.stop_ ?_)
          refine Lib.hid ?_
          refine RowG.wp_oneG elP 43 Tryz.underlying43 _ rfl (.tmp 34) (.tmp 38) rfl w.heap.size _ (q ++ [(cc, y)]) (1, x) trivial rfl ?_ wr.heap.size ?_ (new_pair _ 1 x) ?_ (by decide) ?_ ?_
          focus (exact RowG.own_keep HO.out ((Below.refl _ _).alloc (Nat.le_refl _) _))
          focus rfl
          focus (have := HSM.out.1; rw [List.length_append, List.length_singleton] at this ⊢; omega)
          focus (exact (HW.out.alloc HW.out.size _).size)
          intro v3 w3 ho3 hb3 hk3
          rw [← HV.out] at ho3
          have HO3 := Lib.hid ho3
          have HW3 := Lib.hid ((HW.out.alloc HW.out.size _).trans hb3)
          clear ho3 hb3 hk3
          go_wp2_with fail
          go_roundw
          case rel => exact ⟨i + 1, by go_num, hlt, HO3.out, HW3.out⟩
          case measure => simp [intOf]; omega
    · have hin : i = n := by omega
      subst hin
      rw [List.take_of_length_le (by rw [HN.out]; exact Nat.le_refl _)] at HO
      go_wp2_with fail
      exact bodyPost_ret (v := u3) (by simp [results, Tryz.results18, go_sem]) rfl ⟨⟨_, rfl, HO.out⟩, HW.out⟩
end Go.Proofs.YtffegkjlgeblbaaGreatDoor.Mdl
end

section
/- Sections, by the program's writer: walked, given what their lists are laid as. -/
namespace Go.Proofs.YtffegkjlgeblbaaGreatDoor.Mdl
open Go.RowKit Ints Typ Ins
set_option maxRecDepth 100000
set_option maxHeartbeats 4000000
set_option linter.unusedVariables false
theorem WTold.same {g : Nat} {b : List Int} {bad : Bool} {w : World} (h : WS w g b bad) : WTold g b bad true [] w (.returned (.tuple #[])) w := ⟨b, bad, rfl, h, Puts.same b bad (by have := h.le; omega), WFr.refl g w⟩
theorem wsec_1 {w : World} {g : Nat} {b : List Int} {bad ok : Bool} {x : List Int} (v0 v1 v2 v3 v4 v5 v6 v7 v8 v9 v10 : Value) (h : WS w g b bad)
    (hl : ∀ W, Below w.heap.size w W → WS W g b bad → Calls Tryz.prog 144 #[.pointer (some ⟨g, 0, none⟩), v0, .int .i64 64, .func (.func 145) #[.pointer (some ⟨g, 0, none⟩)] #[]] W (WTold g b bad ok x W)) :
    Calls Tryz.prog 93 #[.pointer (some ⟨g, 0, none⟩), .agg #[v0, v1, v2, v3, v4, v5, v6, v7, v8, v9, v10], .int .i64 1] w (WTold g b bad ok x w) := by
  have HB := Lib.hid ((Below.refl w.heap.size w).alloc (Nat.le_refl _) (.cells #[v0, v1, v2, v3, v4, v5, v6, v7, v8, v9, v10] 34))
  have HL := Lib.hid (hl _ HB.out (h.keep HB.out))
  have HF := Lib.hid (WFr.of_below HB.out h.lt)
  clear hl h HB
  go_enter Tryz.func93, Tryz.ntmps93
  go_wp2_with fail
  refine HL.out.mono ?_
  rintro en w3 ⟨b3, bad3, rfl, e2, e3, e4⟩
  have HE : Hid (WTold g b bad ok x w (.returned (.tuple #[])) w3) := Lib.hid ⟨b3, bad3, rfl, e2, e3, HF.out.trans e4⟩
  clear e2 e3 e4
  go_wp2_with fail
  exact bodyPost_end (v := .tuple #[]) (by simp [results, Tryz.results93, go_sem]) rfl HE.out
theorem wsec_2 {w : World} {g : Nat} {b : List Int} {bad ok : Bool} {x : List Int} (v0 v1 v2 v3 v4 v5 v6 v7 v8 v9 v10 : Value) (h : WS w g b bad)
    (hl : ∀ W, Below w.heap.size w W → WS W g b bad → Calls Tryz.prog 146 #[.pointer (some ⟨g, 0, none⟩), v1, .int .i64 64, .func (.func 147) #[.pointer (some ⟨g, 0, none⟩)] #[]] W (WTold g b bad ok x W)) :
    Calls Tryz.prog 93 #[.pointer (some ⟨g, 0, none⟩), .agg #[v0, v1, v2, v3, v4, v5, v6, v7, v8, v9, v10], .int .i64 2] w (WTold g b bad ok x w) := by
  have HB := Lib.hid ((Below.refl w.heap.size w).alloc (Nat.le_refl _) (.cells #[v0, v1, v2, v3, v4, v5, v6, v7, v8, v9, v10] 34))
  have HL := Lib.hid (hl _ HB.out (h.keep HB.out))
  have HF := Lib.hid (WFr.of_below HB.out h.lt)
  clear hl h HB
  go_enter Tryz.func93, Tryz.ntmps93
  go_wp2_with fail
  refine HL.out.mono ?_
  rintro en w3 ⟨b3, bad3, rfl, e2, e3, e4⟩
  have HE : Hid (WTold g b bad ok x w (.returned (.tuple #[])) w3) := Lib.hid ⟨b3, bad3, rfl, e2, e3, HF.out.trans e4⟩
  clear e2 e3 e4
  go_wp2_with fail
  exact bodyPost_end (v := .tuple #[]) (by simp [results, Tryz.results93, go_sem]) rfl HE.out
theorem wsec_3 {w : World} {g : Nat} {b : List Int} {bad ok : Bool} {x : List Int} (v0 v1 v2 v3 v4 v5 v6 v7 v8 v9 v10 : Value) (h : WS w g b bad)
    (hl : ∀ W, Below w.heap.size w W → WS W g b bad → Calls Tryz.prog 148 #[.pointer (some ⟨g, 0, none⟩), v2, .int .i64 128, .func (.func 149) #[.pointer (some ⟨g, 0, none⟩)] #[]] W (WTold g b bad ok x W)) :
    Calls Tryz.prog 93 #[.pointer (some ⟨g, 0, none⟩), .agg #[v0, v1, v2, v3, v4, v5, v6, v7, v8, v9, v10], .int .i64 3] w (WTold g b bad ok x w) := by
  have HB := Lib.hid ((Below.refl w.heap.size w).alloc (Nat.le_refl _) (.cells #[v0, v1, v2, v3, v4, v5, v6, v7, v8, v9, v10] 34))
  have HL := Lib.hid (hl _ HB.out (h.keep HB.out))
  have HF := Lib.hid (WFr.of_below HB.out h.lt)
  clear hl h HB
  go_enter Tryz.func93, Tryz.ntmps93
  go_wp2_with fail
  refine HL.out.mono ?_
  rintro en w3 ⟨b3, bad3, rfl, e2, e3, e4⟩
  have HE : Hid (WTold g b bad ok x w (.returned (.tuple #[])) w3) := Lib.hid ⟨b3, bad3, rfl, e2, e3, HF.out.trans e4⟩
  clear e2 e3 e4
  go_wp2_with fail
  exact bodyPost_end (v := .tuple #[]) (by simp [results, Tryz.results93, go_sem]) rfl HE.out
theorem wsec_4 {w : World} {g : Nat} {b : List Int} {bad ok : Bool} {x : List Int} (v0 v1 v2 v3 v4 v5 v6 v7 v8 v9 v10 : Value) (h : WS w g b bad)
    (hl : ∀ W, Below w.heap.size w W → WS W g b bad → Calls Tryz.prog 150 #[.pointer (some ⟨g, 0, none⟩), v3, .int .i64 32, .func (.func 151) #[.pointer (some ⟨g, 0, none⟩)] #[]] W (WTold g b bad ok x W)) :
    Calls Tryz.prog 93 #[.pointer (some ⟨g, 0, none⟩), .agg #[v0, v1, v2, v3, v4, v5, v6, v7, v8, v9, v10], .int .i64 4] w (WTold g b bad ok x w) := by
  have HB := Lib.hid ((Below.refl w.heap.size w).alloc (Nat.le_refl _) (.cells #[v0, v1, v2, v3, v4, v5, v6, v7, v8, v9, v10] 34))
  have HL := Lib.hid (hl _ HB.out (h.keep HB.out))
  have HF := Lib.hid (WFr.of_below HB.out h.lt)
  clear hl h HB
  go_enter Tryz.func93, Tryz.ntmps93
  go_wp2_with fail
  refine HL.out.mono ?_
  rintro en w3 ⟨b3, bad3, rfl, e2, e3, e4⟩
  have HE : Hid (WTold g b bad ok x w (.returned (.tuple #[])) w3) := Lib.hid ⟨b3, bad3, rfl, e2, e3, HF.out.trans e4⟩
  clear e2 e3 e4
  go_wp2_with fail
  exact bodyPost_end (v := .tuple #[]) (by simp [results, Tryz.results93, go_sem]) rfl HE.out
theorem wsec_5 {w : World} {g : Nat} {b : List Int} {bad ok : Bool} {x : List Int} (v0 v1 v2 v3 v4 v5 v6 v7 v8 v9 v10 : Value) (h : WS w g b bad)
    (hl : ∀ W, Below w.heap.size w W → WS W g b bad → Calls Tryz.prog 150 #[.pointer (some ⟨g, 0, none⟩), v4, .int .i64 32, .func (.func 152) #[.pointer (some ⟨g, 0, none⟩)] #[]] W (WTold g b bad ok x W)) :
    Calls Tryz.prog 93 #[.pointer (some ⟨g, 0, none⟩), .agg #[v0, v1, v2, v3, v4, v5, v6, v7, v8, v9, v10], .int .i64 5] w (WTold g b bad ok x w) := by
  have HB := Lib.hid ((Below.refl w.heap.size w).alloc (Nat.le_refl _) (.cells #[v0, v1, v2, v3, v4, v5, v6, v7, v8, v9, v10] 34))
  have HL := Lib.hid (hl _ HB.out (h.keep HB.out))
  have HF := Lib.hid (WFr.of_below HB.out h.lt)
  clear hl h HB
  go_enter Tryz.func93, Tryz.ntmps93
  go_wp2_with fail
  refine HL.out.mono ?_
  rintro en w3 ⟨b3, bad3, rfl, e2, e3, e4⟩
  have HE : Hid (WTold g b bad ok x w (.returned (.tuple #[])) w3) := Lib.hid ⟨b3, bad3, rfl, e2, e3, HF.out.trans e4⟩
  clear e2 e3 e4
  go_wp2_with fail
  exact bodyPost_end (v := .tuple #[]) (by simp [results, Tryz.results93, go_sem]) rfl HE.out
theorem wsec_6 {w : World} {g : Nat} {b : List Int} {bad ok : Bool} {x : List Int} (v0 v1 v2 v3 v4 v5 v6 v7 v8 v9 v10 : Value) (h : WS w g b bad)
    (hl : ∀ W, Below w.heap.size w W → WS W g b bad → Calls Tryz.prog 153 #[.pointer (some ⟨g, 0, none⟩), v5, .int .i64 64, .func (.func 154) #[.pointer (some ⟨g, 0, none⟩)] #[]] W (WTold g b bad ok x W)) :
    Calls Tryz.prog 93 #[.pointer (some ⟨g, 0, none⟩), .agg #[v0, v1, v2, v3, v4, v5, v6, v7, v8, v9, v10], .int .i64 6] w (WTold g b bad ok x w) := by
  have HB := Lib.hid ((Below.refl w.heap.size w).alloc (Nat.le_refl _) (.cells #[v0, v1, v2, v3, v4, v5, v6, v7, v8, v9, v10] 34))
  have HL := Lib.hid (hl _ HB.out (h.keep HB.out))
  have HF := Lib.hid (WFr.of_below HB.out h.lt)
  clear hl h HB
  go_enter Tryz.func93, Tryz.ntmps93
  go_wp2_with fail
  refine HL.out.mono ?_
  rintro en w3 ⟨b3, bad3, rfl, e2, e3, e4⟩
  have HE : Hid (WTold g b bad ok x w (.returned (.tuple #[])) w3) := Lib.hid ⟨b3, bad3, rfl, e2, e3, HF.out.trans e4⟩
  clear e2 e3 e4
  go_wp2_with fail
  exact bodyPost_end (v := .tuple #[]) (by simp [results, Tryz.results93, go_sem]) rfl HE.out
theorem wsec_7 {w : World} {g : Nat} {b : List Int} {bad ok : Bool} {x : List Int} (v0 v1 v2 v3 v4 v5 v6 v7 v8 v9 v10 : Value) (h : WS w g b bad)
    (hl : ∀ W, Below w.heap.size w W → WS W g b bad → Calls Tryz.prog 155 #[.pointer (some ⟨g, 0, none⟩), v6, .int .i64 64, .func (.func 156) #[.pointer (some ⟨g, 0, none⟩)] #[]] W (WTold g b bad ok x W)) :
    Calls Tryz.prog 93 #[.pointer (some ⟨g, 0, none⟩), .agg #[v0, v1, v2, v3, v4, v5, v6, v7, v8, v9, v10], .int .i64 7] w (WTold g b bad ok x w) := by
  have HB := Lib.hid ((Below.refl w.heap.size w).alloc (Nat.le_refl _) (.cells #[v0, v1, v2, v3, v4, v5, v6, v7, v8, v9, v10] 34))
  have HL := Lib.hid (hl _ HB.out (h.keep HB.out))
  have HF := Lib.hid (WFr.of_below HB.out h.lt)
  clear hl h HB
  go_enter Tryz.func93, Tryz.ntmps93
  go_wp2_with fail
  refine HL.out.mono ?_
  rintro en w3 ⟨b3, bad3, rfl, e2, e3, e4⟩
  have HE : Hid (WTold g b bad ok x w (.returned (.tuple #[])) w3) := Lib.hid ⟨b3, bad3, rfl, e2, e3, HF.out.trans e4⟩
  clear e2 e3 e4
  go_wp2_with fail
  exact bodyPost_end (v := .tuple #[]) (by simp [results, Tryz.results93, go_sem]) rfl HE.out
theorem wsec_9 {w : World} {g : Nat} {b : List Int} {bad ok : Bool} {x : List Int} (v0 v1 v2 v3 v4 v5 v6 v7 v8 v9 v10 : Value) (h : WS w g b bad)
    (hl : ∀ W, Below w.heap.size w W → WS W g b bad → Calls Tryz.prog 158 #[.pointer (some ⟨g, 0, none⟩), v8, .int .i64 32, .func (.func 159) #[.pointer (some ⟨g, 0, none⟩)] #[]] W (WTold g b bad ok x W)) :
    Calls Tryz.prog 93 #[.pointer (some ⟨g, 0, none⟩), .agg #[v0, v1, v2, v3, v4, v5, v6, v7, v8, v9, v10], .int .i64 9] w (WTold g b bad ok x w) := by
  have HB := Lib.hid ((Below.refl w.heap.size w).alloc (Nat.le_refl _) (.cells #[v0, v1, v2, v3, v4, v5, v6, v7, v8, v9, v10] 34))
  have HL := Lib.hid (hl _ HB.out (h.keep HB.out))
  have HF := Lib.hid (WFr.of_below HB.out h.lt)
  clear hl h HB
  go_enter Tryz.func93, Tryz.ntmps93
  go_wp2_with fail
  refine HL.out.mono ?_
  rintro en w3 ⟨b3, bad3, rfl, e2, e3, e4⟩
  have HE : Hid (WTold g b bad ok x w (.returned (.tuple #[])) w3) := Lib.hid ⟨b3, bad3, rfl, e2, e3, HF.out.trans e4⟩
  clear e2 e3 e4
  go_wp2_with fail
  exact bodyPost_end (v := .tuple #[]) (by simp [results, Tryz.results93, go_sem]) rfl HE.out
theorem wsec_10 {w : World} {g : Nat} {b : List Int} {bad ok : Bool} {x : List Int} (v0 v1 v2 v3 v4 v5 v6 v7 v8 v9 v10 : Value) (h : WS w g b bad)
    (hl : ∀ W, Below w.heap.size w W → WS W g b bad → Calls Tryz.prog 160 #[.pointer (some ⟨g, 0, none⟩), v9, .int .i64 128, .func (.func 161) #[.pointer (some ⟨g, 0, none⟩)] #[]] W (WTold g b bad ok x W)) :
    Calls Tryz.prog 93 #[.pointer (some ⟨g, 0, none⟩), .agg #[v0, v1, v2, v3, v4, v5, v6, v7, v8, v9, v10], .int .i64 10] w (WTold g b bad ok x w) := by
  have HB := Lib.hid ((Below.refl w.heap.size w).alloc (Nat.le_refl _) (.cells #[v0, v1, v2, v3, v4, v5, v6, v7, v8, v9, v10] 34))
  have HL := Lib.hid (hl _ HB.out (h.keep HB.out))
  have HF := Lib.hid (WFr.of_below HB.out h.lt)
  clear hl h HB
  go_enter Tryz.func93, Tryz.ntmps93
  go_wp2_with fail
  refine HL.out.mono ?_
  rintro en w3 ⟨b3, bad3, rfl, e2, e3, e4⟩
  have HE : Hid (WTold g b bad ok x w (.returned (.tuple #[])) w3) := Lib.hid ⟨b3, bad3, rfl, e2, e3, HF.out.trans e4⟩
  clear e2 e3 e4
  go_wp2_with fail
  exact bodyPost_end (v := .tuple #[]) (by simp [results, Tryz.results93, go_sem]) rfl HE.out
theorem wsec_11 {w : World} {g : Nat} {b : List Int} {bad ok : Bool} {x : List Int} (v0 v1 v2 v3 v4 v5 v6 v7 v8 v9 v10 : Value) (h : WS w g b bad)
    (hl : ∀ W, Below w.heap.size w W → WS W g b bad → Calls Tryz.prog 162 #[.pointer (some ⟨g, 0, none⟩), v10, .int .i64 32, .func (.func 163) #[.pointer (some ⟨g, 0, none⟩)] #[]] W (WTold g b bad ok x W)) :
    Calls Tryz.prog 93 #[.pointer (some ⟨g, 0, none⟩), .agg #[v0, v1, v2, v3, v4, v5, v6, v7, v8, v9, v10], .int .i64 11] w (WTold g b bad ok x w) := by
  have HB := Lib.hid ((Below.refl w.heap.size w).alloc (Nat.le_refl _) (.cells #[v0, v1, v2, v3, v4, v5, v6, v7, v8, v9, v10] 34))
  have HL := Lib.hid (hl _ HB.out (h.keep HB.out))
  have HF := Lib.hid (WFr.of_below HB.out h.lt)
  clear hl h HB
  go_enter Tryz.func93, Tryz.ntmps93
  go_wp2_with fail
  refine HL.out.mono ?_
  rintro en w3 ⟨b3, bad3, rfl, e2, e3, e4⟩
  have HE : Hid (WTold g b bad ok x w (.returned (.tuple #[])) w3) := Lib.hid ⟨b3, bad3, rfl, e2, e3, HF.out.trans e4⟩
  clear e2 e3 e4
  go_wp2_with fail
  exact bodyPost_end (v := .tuple #[]) (by simp [results, Tryz.results93, go_sem]) rfl HE.out
theorem wsec_8 {w : World} {g : Nat} {b : List Int} {bad ok : Bool} {x : List Int} (v0 v1 v2 v3 v4 v5 v6 v7 v8 v9 v10 : Value) (h : WS w g b bad)
    (hl : ∀ W, Below w.heap.size w W → WS W g b bad → Calls Tryz.prog 157 #[.pointer (some ⟨g, 0, none⟩), v7] W (WTold g b bad ok x W)) :
    Calls Tryz.prog 93 #[.pointer (some ⟨g, 0, none⟩), .agg #[v0, v1, v2, v3, v4, v5, v6, v7, v8, v9, v10], .int .i64 8] w (WTold g b bad ok x w) := by
  have HB := Lib.hid ((Below.refl w.heap.size w).alloc (Nat.le_refl _) (.cells #[v0, v1, v2, v3, v4, v5, v6, v7, v8, v9, v10] 34))
  have HL := Lib.hid (hl _ HB.out (h.keep HB.out))
  have HF := Lib.hid (WFr.of_below HB.out h.lt)
  clear hl h HB
  go_enter Tryz.func93, Tryz.ntmps93
  go_wp2_with fail
  refine HL.out.mono ?_
  rintro en w3 ⟨b3, bad3, rfl, e2, e3, e4⟩
  have HE : Hid (WTold g b bad ok x w (.returned (.tuple #[])) w3) := Lib.hid ⟨b3, bad3, rfl, e2, e3, HF.out.trans e4⟩
  clear e2 e3 e4
  go_wp2_with fail
  exact bodyPost_end (v := .tuple #[]) (by simp [results, Tryz.results93, go_sem]) rfl HE.out
end Go.Proofs.YtffegkjlgeblbaaGreatDoor.Mdl
end

section
/- A module laid by the program: walked, given its sections. -/
namespace Go.Proofs.YtffegkjlgeblbaaGreatDoor.Mdl
open Go.RowKit Ints Typ Ins
set_option maxRecDepth 100000
set_option maxHeartbeats 4000000
set_option linter.unusedVariables false
def elS : RowG.El (Sec.Sct × Value) where
  e := 54
  s := 2
  z := .agg #[.int .i64 0, .slice none 0 0]
  bytes := 32
  enc := fun p => [.int .i64 p.1.1, p.2]
  ok := Sec.ScOk
  pos := by decide
  len := fun _ => rfl
  info := by kernel_rfl
  zs := rfl
  stay := fun h hb => h.keep hb
  one := fun h u hu => by
    simp only [List.mem_cons, List.not_mem_nil, or_false] at hu
    rcases hu with rfl | rfl
    · rfl
    · exact slB_one h.1
theorem sc_row {w : World} {v : Value} {l : List (Sec.Sct × Value)} (h : RowG.Row elS w v l) : Sec.ScRow w v l := by
  obtain ⟨⟨A, c, h1, h2, h3, h4⟩, h5⟩ := h
  refine ⟨⟨A, c, h1, h2, h3, fun h0 => ?_⟩, h5⟩
  obtain ⟨g, off, e, hg, hB⟩ := h4 h0
  exact ⟨g, off, e, hg, fun j p hp => ⟨hB j p hp 0 _ rfl, hB j p hp 1 _ rfl⟩⟩
def secL (f : Nat → List Int) : Nat → List Sec.Sct
  | 0 => []
  | n + 1 => secL f n ++ (if f (n + 1) = [] then [] else [(((n + 1 : Nat) : Int), f (n + 1))])
def okS (ok : Nat → Bool) (f : Nat → List Int) : Nat → Bool
  | 0 => true
  | n + 1 => okS ok f n && (ok (n + 1) && decide ((f (n + 1)).length ≤ 65536))
theorem secL_len (f : Nat → List Int) : ∀ n, (secL f n).length ≤ n
  | 0 => Nat.le_refl _
  | n + 1 => by
    unfold secL
    have := secL_len f n
    rw [List.length_append]
    split <;> simp <;> omega
theorem secL_size {ok : Nat → Bool} {f : Nat → List Int} : ∀ {n : Nat}, okS ok f n = true → ∀ p ∈ secL f n, p.2.length ≤ 65536
  | 0, _, p, hp => by cases hp
  | n + 1, h, p, hp => by
    unfold okS at h
    rw [Bool.and_eq_true, Bool.and_eq_true] at h
    unfold secL at hp
    rcases List.mem_append.1 hp with hp | hp
    · exact secL_size h.1 p hp
    · split at hp
      · cases hp
      · rw [List.mem_singleton.1 hp]
        exact of_decide_eq_true h.2.2
def LaidTold (P : Bool) (bs : List Int) (w : World) (en : Ending) (w' : World) : Prop :=
  (P = true ∧ (∃ g c, en = .returned (.tuple #[.slice g bs.length c, .bool true]) ∧ Sl w' (.slice g bs.length c) bs) ∨ P = false ∧ ∃ u, en = .returned (.tuple #[u, .bool false])) ∧ Below w.heap.size w w'
theorem ws_new (w : World) : WS (w.alloc (.cells #[.slice none 0 0, .bool false] 148)) w.heap.size [] false :=
  ⟨⟨none, 0, Sec.heap_new w _, ⟨by simp [vb], .inl ⟨rfl, rfl⟩⟩⟩, by simp⟩
theorem okS_no {ok : Nat → Bool} {f : Nat → List Int} : ∀ {n k : Nat}, k < n → (ok (k + 1) && decide ((f (k + 1)).length ≤ 65536)) = false → okS ok f n = false
  | 0, k, h, _ => by omega
  | n + 1, k, h, h2 => by
    unfold okS
    rcases Nat.lt_or_ge k n with hk | hk
    · rw [okS_no hk h2]; rfl
    · obtain rfl : k = n := by omega
      rw [h2, Bool.and_false]
end Go.Proofs.YtffegkjlgeblbaaGreatDoor.Mdl
end

section
/- The program's lists of Import, laid: walked. -/
namespace Go.Proofs.YtffegkjlgeblbaaGreatDoor.Mdl
open Go.RowKit Ints Typ Ins
set_option maxRecDepth 100000
set_option maxHeartbeats 4000000
set_option linter.unusedVariables false
theorem wlist_Import (okf : ImpT → Bool) (xf : ImpT → List Int) (m : Int) (K : Nat) {w0 w : World} {v : Value} {L : List ImpT} {g : Nat} {b : List Int} {bad : Bool} (hw : WS w g b bad) (hr : RowG.Row elI w0 v L) (hb : Below w0.heap.size w0 w) (hg : w0.heap.size ≤ g) (hL : L.length ≤ 100000)
    (hrun : ∀ args W, (callFunc K args).run Tryz.prog W = .ok (.enter K args) W)
    (hone : ∀ W b' bad' p, p ∈ L → WS W g b' bad' → Below w0.heap.size w0 W → Calls Tryz.prog K #[.pointer (some ⟨g, 0, none⟩), (fun p : ImpT => .agg #[.string p.md, .string p.nm, .int .i64 p.kind, .int .i64 p.ty, .int .i64 p.lim.1, .int .i64 p.lim.2.1, .bool p.lim.2.2, .int .u8 p.val, .bool p.mt]) p] W (WTold g b' bad' (okf p) (xf p) W)) :
    Calls Tryz.prog 191 #[.pointer (some ⟨g, 0, none⟩), v, .int .i64 m, .func (.func K) #[.pointer (some ⟨g, 0, none⟩)] #[]] w (WTold g b bad (decide ((L.length : Int) ≤ m) && L.all okf) (Leb.uB L.length ++ L.flatMap xf) w) := by
  obtain ⟨P, c, rfl⟩ := row_len hr
  obtain ⟨n, hn⟩ : ∃ n, L.length = n := ⟨_, rfl⟩
  have HN := Lib.hid hn
  rw [hn] at hr hL ⊢
  have HR := Lib.hid hr
  have HBW := Lib.hid hb
  have HG := Lib.hid hg
  have HONE := Lib.hid hone
  obtain ⟨hd, hhd⟩ : ∃ r, decide ((n : Int) ≤ m) = r := ⟨_, rfl⟩
  have HWN := Lib.hid (wneed hd hw)
  have HD := Lib.hid (hw.set1 (bad || !hd))
  obtain ⟨W1, hW1⟩ : ∃ W, w.setCell ⟨g, 1, none⟩ (.bool (bad || !hd)) = W := ⟨_, rfl⟩
  have HFR : Hid (WFr g w W1) := Lib.hid (by rw [← hW1]; exact (WFr.refl g w).setCell _ _)
  rw [hW1] at HD HWN
  rw [hhd]
  obtain ⟨TO, hTO⟩ : ∃ r, (hd && L.all okf) = r := ⟨_, rfl⟩
  obtain ⟨TX, hTX⟩ : ∃ r, Leb.uB n ++ L.flatMap xf = r := ⟨_, rfl⟩
  have HTO := Lib.hid hTO
  have HTX := Lib.hid hTX
  rw [hTO, hTX]
  clear hW1 hw hr hb hg hone hn hTO hTX
  go_enter Tryz.func191, Tryz.ntmps191
  go_wp2_with fail
  refine HWN.out.mono ?_
  rintro en w1 ⟨rfl, hw1⟩
  obtain rfl : W1 = w1 := hw1.symm
  go_wp2_with fail
  refine (wnum (n : Int) (by omega) HD.out).mono ?_
  rintro en w2 ⟨b2, bad2, rfl, hs2, hp2, hf2⟩
  have HS2 := Lib.hid hs2
  have HP2 : Hid (Puts b bad b2 bad2 hd (Leb.uB n)) := Lib.hid (Puts.after (by rw [okU_nat hL, Int.toNat_natCast] at hp2; exact hp2))
  have HF2 := Lib.hid (HFR.out.trans hf2)
  clear hs2 hp2 hf2 hhd
  go_wp2_with fail
  go_loopw [22] (fun i' wr => ∃ (i : Nat) (b' : List Int) (bad' : Bool), i' = .int .i64 (i : Int) ∧ i ≤ n ∧ WS wr g b' bad' ∧ Puts b bad b' bad' (hd && (L.take i).all okf) (Leb.uB n ++ (L.take i).flatMap xf) ∧ WFr g w wr) (fun i' _ => n - (intOf i').toNat)
  case atStart => exact ⟨0, b2, bad2, by go_num, by omega, HS2.out, by simpa using HP2.out, HF2.out⟩
  case round =>
    obtain ⟨i, b', bad', rfl, hi, hs, hp, hf⟩ := hrel
    have HS := Lib.hid hs
    have HP := Lib.hid hp
    have HF := Lib.hid hf
    clear hs hp hf HS2 HP2 HF2
    by_cases hlt : i < n
    · obtain ⟨p, hp⟩ : ∃ p, L[i]? = some p := ⟨_, List.getElem?_eq_getElem (by rw [HN.out]; exact hlt)⟩
      have HBR : Hid (Below w0.heap.size w0 wr) := Lib.hid (HBW.out.trans (HF.out.below.mono HG.out))
      obtain ⟨g1, off, rfl, hg1, hA, hok⟩ := (HR.out.keep HBR.out).at_ hp
      rw [show (elI.s) = 9 from rfl] at hA
      have q0 := hA 0 (.string p.md) rfl
      have q1 := hA 1 (.string p.nm) rfl
      have q2 := hA 2 (.int .i64 p.kind) rfl
      have q3 := hA 3 (.int .i64 p.ty) rfl
      have q4 := hA 4 (.int .i64 p.lim.1) rfl
      have q5 := hA 5 (.int .i64 p.lim.2.1) rfl
      have q6 := hA 6 (.bool p.lim.2.2) rfl
      have q7 := hA 7 (.int .u8 p.val) rfl
      have q8 := hA 8 (.bool p.mt) rfl
      rw [Nat.add_zero] at q0
      have HPM := Lib.hid (List.mem_of_getElem? hp)
      have HAN := Lib.hid (all_next okf hp)
      have HFN := Lib.hid (flat_next xf hp)
      have i1 : (0 : Int) ≤ (i : Int) := by omega
      have i2 : (i : Int) < (n : Int) := by omega
      have hw1 : IntKind.i64.wrap ((i : Int) + 1) = (i : Int) + 1 := IntWalk.i64_in _ (by omega)
      clear hA hp hg1
      obtain ⟨md, nm, kind, ty, ⟨lx, ly, lz⟩, val, mt⟩ := p
      obtain ⟨W2, hW2⟩ : ∃ W, wr.alloc (.cells #[.string md, .string nm, .int .i64 kind, .int .i64 ty, .int .i64 lx, .int .i64 ly, .bool lz, .int .u8 val, .bool mt] 63) = W := ⟨_, rfl⟩
      have HA2 : Hid (Below wr.heap.size wr W2) := Lib.hid (by rw [← hW2]; exact (Below.refl _ _).alloc (Nat.le_refl _) _)
      have HS2 : Hid (WS W2 g b' bad') := Lib.hid (HS.out.keep HA2.out)
      have HF2 : Hid (WFr g w W2) := Lib.hid (HF.out.trans (WFr.of_below HA2.out HS.out.lt))
      have HO2 := Lib.hid (HONE.out W2 b' bad' _ HPM.out HS2.out (HBR.out.trans (HA2.out.mono HBR.out.size)))
      rw [← hW2] at HS2 HF2 HO2
      obtain ⟨⟨Pb, cb, h1, _⟩, _⟩ := id HS.out
      have d1 := Lib.cell?_alloc_some (.cells #[.string md, .string nm, .int .i64 kind, .int .i64 ty, .int .i64 lx, .int .i64 ly, .bool lz, .int .u8 val, .bool mt] 63) (Sec.cells_at h1 1).1
      clear h1 hW2
      cases bad' with
      | true =>
        have HE : Hid (WTold g b bad TO TX w (.returned (.tuple #[])) (wr.alloc (.cells #[.string md, .string nm, .int .i64 kind, .int .i64 ty, .int .i64 lx, .int .i64 ly, .bool lz, .int .u8 val, .bool mt] 63))) := Lib.hid ⟨b', true, rfl, HS2.out, by
          rw [← HTO.out, ← HTX.out, all_cut okf L i, flat_cut xf L i, ← Bool.and_assoc, ← List.append_assoc]
          exact Puts.stop HP.out, HF2.out⟩
        go_wp2_with fail
        exact bodyPost_ret (P := Tryz.prog) (fn := Tryz.f191) (v := .tuple #[]) (by simp [results, Tryz.results191, go_sem]) rfl HE.out
      | false =>
        go_wp2_with fail
        refine HO2.out.mono ?_
        rintro en w3 ⟨b3, bad3, rfl, hs3, hp3, hf3⟩
        have HS3 := Lib.hid hs3
        have HP3 : Hid (Puts b bad b3 bad3 (hd && (L.take (i + 1)).all okf) (Leb.uB n ++ (L.take (i + 1)).flatMap xf)) := Lib.hid (by
          rw [HAN.out, HFN.out, ← Bool.and_assoc, ← List.append_assoc]
          exact HP.out.trans hp3)
        have HF3 := Lib.hid (HF2.out.trans hf3)
        clear hs3 hp3 hf3
        go_wp2_with fail
        go_roundw
        case rel => exact ⟨i + 1, b3, bad3, by go_num, hlt, HS3.out, HP3.out, HF3.out⟩
        case measure => simp [intOf]; omega
    · have hin : i = n := by omega
      subst hin
      have HE : Hid (WTold g b bad TO TX w (.returned (.tuple #[])) wr) := Lib.hid ⟨b', bad', rfl, HS.out, by
        have := HP.out
        rw [List.take_of_length_le (by rw [HN.out]; exact Nat.le_refl _)] at this
        rw [← HTO.out, ← HTX.out]
        exact this, HF.out⟩
      go_wp2_with fail
      exact bodyPost_end (v := .tuple #[]) (by simp [results, Tryz.results191, go_sem]) rfl HE.out
theorem wsome_Import (okf : ImpT → Bool) (xf : ImpT → List Int) (m : Int) (K : Nat) {w0 w : World} {v : Value} {L : List ImpT} {g : Nat} {b : List Int} {bad : Bool} (hw : WS w g b bad) (hr : RowG.Row elI w0 v L) (hb : Below w0.heap.size w0 w) (hg : w0.heap.size ≤ g) (hL : L.length ≤ 100000) (h0 : 0 < L.length)
    (hrun : ∀ args W, (callFunc K args).run Tryz.prog W = .ok (.enter K args) W)
    (hone : ∀ W b' bad' p, p ∈ L → WS W g b' bad' → Below w0.heap.size w0 W → Calls Tryz.prog K #[.pointer (some ⟨g, 0, none⟩), (fun p : ImpT => .agg #[.string p.md, .string p.nm, .int .i64 p.kind, .int .i64 p.ty, .int .i64 p.lim.1, .int .i64 p.lim.2.1, .bool p.lim.2.2, .int .u8 p.val, .bool p.mt]) p] W (WTold g b' bad' (okf p) (xf p) W)) :
    Calls Tryz.prog 146 #[.pointer (some ⟨g, 0, none⟩), v, .int .i64 m, .func (.func K) #[.pointer (some ⟨g, 0, none⟩)] #[]] w (WTold g b bad (decide ((L.length : Int) ≤ m) && L.all okf) (Leb.uB L.length ++ L.flatMap xf) w) := by
  have HC := Lib.hid (wlist_Import okf xf m K hw hr hb hg hL hrun hone)
  obtain ⟨P, c, rfl⟩ := row_len hr
  obtain ⟨TO, hTO⟩ : ∃ r, (decide ((L.length : Int) ≤ m) && L.all okf) = r := ⟨_, rfl⟩
  obtain ⟨TX, hTX⟩ : ∃ r, Leb.uB L.length ++ L.flatMap xf = r := ⟨_, rfl⟩
  rw [hTO, hTX] at HC ⊢
  clear hTO hTX
  obtain ⟨n, hn⟩ : ∃ n, L.length = n := ⟨_, rfl⟩
  rw [hn] at HC h0 ⊢
  have t1 : decide ((0 : Int) < (n : Int)) = true := decide_eq_true (by omega)
  have t2 : decide (0 < n) = true := decide_eq_true h0
  clear hw hr hb hg hL hone hn h0
  go_enter Tryz.func146, Tryz.ntmps146
  go_wp2_with fail
  refine HC.out.mono ?_
  rintro en w3 ⟨b3, bad3, rfl, hs3, hp3, hf3⟩
  have HE : Hid (WTold g b bad TO TX w (.returned (.tuple #[])) w3) := Lib.hid ⟨b3, bad3, rfl, hs3, hp3, hf3⟩
  clear hs3 hp3 hf3
  go_wp2_with fail
  exact bodyPost_end (v := .tuple #[]) (by simp [results, Tryz.results146, go_sem]) rfl HE.out
end Go.Proofs.YtffegkjlgeblbaaGreatDoor.Mdl
end
