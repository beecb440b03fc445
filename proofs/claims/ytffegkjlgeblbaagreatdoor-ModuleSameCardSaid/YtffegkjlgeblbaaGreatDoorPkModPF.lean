/- ModSELimits, ModSEExport, ModPTl, ModPF. -/
import Derived.Test.YtffegkjlgeblbaaGreatDoorPkModEq
import Derived.Test.YtffegkjlgeblbaaGreatDoorPkModSEImport
import Derived.Test.YtffegkjlgeblbaaGreatDoorPkModPList
import Derived.Recover
import Derived.Defers
section
/- Are two lists of Limits the same, by the program: walked. -/
namespace Go.Proofs.YtffegkjlgeblbaaGreatDoor.Mdl
open Go.RowKit Ints Typ Ins
set_option maxRecDepth 100000
set_option maxHeartbeats 4000000
set_option linter.unusedVariables false
theorem bat_Limits (g off k n c : Nat) (W : World) (h1 : (0 : Int) ≤ (k : Int)) (h2 : (k : Int) < (n : Int)) : (Instr.indexAt 27 (.slice (some ⟨g, off, none⟩) n c) (.int .i64 (k : Int))).run Tryz.prog W = .ok (.pointer (some ⟨g, off + k * 3, none⟩)) W := by go_simp
theorem ldAt_Limits {W : World} {b o : Nat} {p : LimT} (h : ∀ i u, (elL.enc p)[i]? = some u → W.cell? ⟨b, o + i, none⟩ = some u) : (Instr.loadAt 61 (.pointer (some ⟨b, o, none⟩))).run Tryz.prog W = .ok (.agg #[.int .i64 p.1, .int .i64 p.2.1, .bool p.2.2]) W := by
  have q0 := h 0 (.int .i64 p.1) rfl
  have q1 := h 1 (.int .i64 p.2.1) rfl
  have q2 := h 2 (.bool p.2.2) rfl
  rw [Nat.add_zero] at q0
  clear h
  go_simp
theorem pel_Limits {a b : List LimT} {A B : Option Addr} {n c d : Nat} {w : World} (hn1 : a.length = n) (hn2 : b.length = n) (hbig : n ≤ 100000) (ha : RowG.Row elL w (.slice A n c) a) (hb : RowG.Row elL w (.slice B n d) b) :
    Calls Tryz.prog 52 #[.slice A n c, .slice B n d] w fun e w' => (∃ r : Bool, e = .returned (.bool r) ∧ (r = true ↔ a = b)) ∧ Below w.heap.size w w' := by
  have HN := Lib.hid hn1
  have HM := Lib.hid hn2
  have HA := Lib.hid ha
  have HB := Lib.hid hb
  clear hn1 hn2 ha hb
  go_enter Tryz.func52, Tryz.ntmps52
  go_wp2_with fail
  go_loopw [13] (fun j' wr => ∃ k : Nat, j' = .int .i64 (k : Int) ∧ k ≤ n ∧ (∀ i, i < k → a[i]? = b[i]?) ∧ Below w.heap.size w wr) (fun j' _ => n - (intOf j').toNat)
  case atStart => exact ⟨0, by go_num, Nat.zero_le _, fun i hi => absurd hi (by omega), Below.refl _ _⟩
  case round =>
    obtain ⟨k, rfl, hk, ht, hW⟩ := hrel
    have HALL := Lib.hid ht
    have HW := Lib.hid hW
    clear ht hW
    by_cases hlt : k < n
    · obtain ⟨p1, hx⟩ : ∃ y, a[k]? = some y := ⟨_, List.getElem?_eq_getElem (by rw [HN.out]; exact hlt)⟩
      obtain ⟨p2, hy⟩ : ∃ y, b[k]? = some y := ⟨_, List.getElem?_eq_getElem (by rw [HM.out]; exact hlt)⟩
      have HX := Lib.hid hx
      have HY := Lib.hid hy
      obtain ⟨g1, f1, rfl, hg1, hA1, hok1⟩ := (HA.out.keep HW.out).at_ hx
      obtain ⟨g2, f2, rfl, hg2, hA2, hok2⟩ := (HB.out.keep HW.out).at_ hy
      rw [show (elL.s) = 3 from rfl] at hA1 hA2
      obtain ⟨x1, y1, z1⟩ := p1
      obtain ⟨x2, y2, z2⟩ := p2
      have HLD1 : Hid (∀ W, Below wr.heap.size wr W → (Instr.loadAt 61 (.pointer (some ⟨g1, f1 + k * 3, none⟩))).run Tryz.prog W = .ok (.agg #[.int .i64 x1, .int .i64 y1, .bool z1]) W) := Lib.hid fun W hb => ldAt_Limits (fun i u hu => by rw [hb.cell (p := ⟨g1, f1 + k * 3 + i, none⟩) hg1]; exact hA1 i u hu)
      have HLD2 : Hid (∀ W, Below wr.heap.size wr W → (Instr.loadAt 61 (.pointer (some ⟨g2, f2 + k * 3, none⟩))).run Tryz.prog W = .ok (.agg #[.int .i64 x2, .int .i64 y2, .bool z2]) W) := Lib.hid fun W hb => ldAt_Limits (fun i u hu => by rw [hb.cell (p := ⟨g2, f2 + k * 3 + i, none⟩) hg2]; exact hA2 i u hu)
      clear hx hy hA1 hA2 hg1 hg2 hok1 hok2
      have hin1 : (0 : Int) ≤ (k : Int) := by omega
      have hin2 : (k : Int) < (n : Int) := by omega
      have hw1 : IntKind.i64.wrap ((k : Int) + 1) = (k : Int) + 1 := IntWalk.i64_in _ (by omega)
      have hne := fun (x y : Operand) (W : World) => ne_lim x1 y1 z1 x2 y2 z2 x y W
      obtain ⟨bb, hbb⟩ : ∃ bb, (!(decide (x1 = x2) && decide (y1 = y2) && decide (z1 = z2))) = bb := ⟨_, rfl⟩
      have HBB := Lib.hid hbb
      rw [hbb] at hne
      clear hbb
      cases bb with
      | true =>
        have HQ : Hid (false = true ↔ a = b) := ⟨fun h => (by cases h), fun h => by
          have h1 := HX.out
          rw [h, HY.out] at h1
          have h2 := Option.some.inj h1
          have h3 := HBB.out
          cases h2
          simp at h3⟩
        go_wp2_with fail
        refine Stab.region 26 [.is (.slice (some ⟨g1, f1, none⟩) n c), .is (.int .i64 (k : Int)), .is (.pointer (some ⟨g1, f1 + k * 3, none⟩)), .is (.agg #[.int .i64 x1, .int .i64 y1, .bool z1]), .is (.slice (some ⟨g2, f2, none⟩) n d), .is (.int .i64 (k : Int)), .is (.pointer (some ⟨g2, f2 + k * 3, none⟩)), .is (.agg #[.int .i64 x2, .int .i64 y2, .bool z2]), .is (.bool true)] (by kernel_rfl) (by kernel_rfl) rfl rfl ?_ ?_
        · with_reducible refine Stab.steps_cons ?_ ?_ ?_
          · exact Stab.owes_move rfl rfl rfl
          · exact trivial
          with_reducible refine Stab.steps_cons ?_ ?_ ?_
          · exact Stab.owes_move rfl rfl rfl
          · exact trivial
          with_reducible refine Stab.steps_cons ?_ ?_ ?_
          · exact Stab.owes_indexAt rfl rfl rfl (fun W => bat_Limits _ _ _ _ _ W hin1 hin2) rfl
          · exact trivial
          with_reducible refine Stab.steps_cons ?_ ?_ ?_
          · exact Stab.owes_load rfl (fun v W hb hv => by subst hv; exact HLD1.out W hb) rfl
          · exact trivial
          with_reducible refine Stab.steps_cons ?_ ?_ ?_
          · exact Stab.owes_move rfl rfl rfl
          · exact trivial
          with_reducible refine Stab.steps_cons ?_ ?_ ?_
          · exact Stab.owes_move rfl rfl rfl
          · exact trivial
          with_reducible refine Stab.steps_cons ?_ ?_ ?_
          · exact Stab.owes_indexAt rfl rfl rfl (fun W => bat_Limits _ _ _ _ _ W hin1 hin2) rfl
          · exact trivial
          with_reducible refine Stab.steps_cons ?_ ?_ ?_
          · exact Stab.owes_load rfl (fun v W hb hv => by subst hv; exact HLD2.out W hb) rfl
          · exact trivial
          with_reducible refine Stab.steps_cons ?_ ?_ ?_
          · exact Stab.owes_bin rfl rfl rfl (fun W => hne _ _ W) rfl
          · exact trivial
          exact Stab.steps_nil
        intro W hbW _
        simp only [Act.put, List.setIfInBounds_toArray, List.set_cons_succ, List.set_cons_zero]
        have HBW := Lib.hid (HW.out.trans (hbW.mono HW.out.size))
        clear hbW
        go_wp2_with fail
        exact bodyPost_ret (v := .bool false) (by simp [results, Tryz.results52, go_sem]) rfl ⟨⟨_, rfl, HQ.out⟩, HBW.out⟩
      | false =>
        have HQ : Hid (∀ i, i < k + 1 → a[i]? = b[i]?) := fun i hi => by
          by_cases e : i = k
          · subst e
            rw [HX.out, HY.out]
            have h3 := HBB.out
            simp at h3
            obtain ⟨⟨rfl, rfl⟩, rfl⟩ := h3
            rfl
          · exact HALL.out i (by omega)
        go_wp2_with fail
        refine Stab.region 26 [.is (.slice (some ⟨g1, f1, none⟩) n c), .is (.int .i64 (k : Int)), .is (.pointer (some ⟨g1, f1 + k * 3, none⟩)), .is (.agg #[.int .i64 x1, .int .i64 y1, .bool z1]), .is (.slice (some ⟨g2, f2, none⟩) n d), .is (.int .i64 (k : Int)), .is (.pointer (some ⟨g2, f2 + k * 3, none⟩)), .is (.agg #[.int .i64 x2, .int .i64 y2, .bool z2]), .is (.bool false)] (by kernel_rfl) (by kernel_rfl) rfl rfl ?_ ?_
        · with_reducible refine Stab.steps_cons ?_ ?_ ?_
          · exact Stab.owes_move rfl rfl rfl
          · exact trivial
          with_reducible refine Stab.steps_cons ?_ ?_ ?_
          · exact Stab.owes_move rfl rfl rfl
          · exact trivial
          with_reducible refine Stab.steps_cons ?_ ?_ ?_
          · exact Stab.owes_indexAt rfl rfl rfl (fun W => bat_Limits _ _ _ _ _ W hin1 hin2) rfl
          · exact trivial
          with_reducible refine Stab.steps_cons ?_ ?_ ?_
          · exact Stab.owes_load rfl (fun v W hb hv => by subst hv; exact HLD1.out W hb) rfl
          · exact trivial
          with_reducible refine Stab.steps_cons ?_ ?_ ?_
          · exact Stab.owes_move rfl rfl rfl
          · exact trivial
          with_reducible refine Stab.steps_cons ?_ ?_ ?_
          · exact Stab.owes_move rfl rfl rfl
          · exact trivial
          with_reducible refine Stab.steps_cons ?_ ?_ ?_
          · exact Stab.owes_indexAt rfl rfl rfl (fun W => bat_Limits _ _ _ _ _ W hin1 hin2) rfl
          · exact trivial
          with_reducible refine Stab.steps_cons ?_ ?_ ?_
          · exact Stab.owes_load rfl (fun v W hb hv => by subst hv; exact HLD2.out W hb) rfl
          · exact trivial
          with_reducible refine Stab.steps_cons ?_ ?_ ?_
          · exact Stab.owes_bin rfl rfl rfl (fun W => hne _ _ W) rfl
          · exact trivial
          exact Stab.steps_nil
        intro W hbW _
        simp only [Act.put, List.setIfInBounds_toArray, List.set_cons_succ, List.set_cons_zero]
        have HBW := Lib.hid (HW.out.trans (hbW.mono HW.out.size))
        clear hbW
        go_wp2_with fail
        go_roundw
        case rel => exact ⟨k + 1, by go_num, hlt, HQ.out, HBW.out⟩
        case measure => simp [intOf]; omega
    · have hkn : k = n := by omega
      subst hkn
      have HQ : Hid (true = true ↔ a = b) := ⟨fun _ => by
        apply List.ext_getElem?
        intro i
        by_cases hi : i < k
        · exact HALL.out i hi
        · rw [List.getElem?_eq_none (by rw [HN.out]; omega), List.getElem?_eq_none (by rw [HM.out]; omega)], fun _ => rfl⟩
      go_wp2_with fail
      exact bodyPost_ret (v := .bool true) (by simp [results, Tryz.results52, go_sem]) rfl ⟨by first | exact ⟨_, rfl, HQ.out⟩ | exact .inr ⟨rfl, by have h := HQ.out; simpa using h⟩, HW.out⟩
theorem peqs_Limits {a b : List LimT} {u v : Value} {w : World} (hbig : a.length ≤ 100000) (ha : RowG.Row elL w u a) (hb : RowG.Row elL w v b) :
    Calls Tryz.prog 52 #[u, v] w fun e w' => (∃ r : Bool, e = .returned (.bool r) ∧ (r = true ↔ a = b)) ∧ Below w.heap.size w w' := by
  obtain ⟨A, c, rfl⟩ := row_len ha
  obtain ⟨B, d, rfl⟩ := row_len hb
  by_cases h : a.length = b.length
  · rw [← h] at hb ⊢
    exact pel_Limits rfl h.symm hbig ha hb
  · have HQ : Hid (false = true ↔ a = b) := ⟨fun h => (by cases h), fun e => by
      have := congrArg List.length e
      exact absurd this h⟩
    obtain ⟨n, hn⟩ : ∃ n, a.length = n := ⟨_, rfl⟩
    obtain ⟨m, hm⟩ : ∃ n, b.length = n := ⟨_, rfl⟩
    rw [hn, hm] at h ⊢
    have t1 : ((n : Int) != (m : Int)) = true := by simp; omega
    have t1' : (n != m) = true := by simpa using h
    clear h hn hm ha hb hbig
    go_enter Tryz.func52, Tryz.ntmps52
    go_wp2_with fail
    exact bodyPost_ret (v := .bool false) (by simp [results, Tryz.results52, go_sem]) rfl ⟨⟨_, rfl, HQ.out⟩, Below.refl _ _⟩
end Go.Proofs.YtffegkjlgeblbaaGreatDoor.Mdl
end

section
/- Are two lists of Export the same, by the program: walked. -/
namespace Go.Proofs.YtffegkjlgeblbaaGreatDoor.Mdl
open Go.RowKit Ints Typ Ins
set_option maxRecDepth 100000
set_option maxHeartbeats 4000000
set_option linter.unusedVariables false
theorem bat_Export (g off k n c : Nat) (W : World) (h1 : (0 : Int) ≤ (k : Int)) (h2 : (k : Int) < (n : Int)) : (Instr.indexAt 29 (.slice (some ⟨g, off, none⟩) n c) (.int .i64 (k : Int))).run Tryz.prog W = .ok (.pointer (some ⟨g, off + k * 3, none⟩)) W := by go_simp
theorem ldAt_Export {W : World} {b o : Nat} {p : ExpT} (h : ∀ i u, (elX.enc p)[i]? = some u → W.cell? ⟨b, o + i, none⟩ = some u) : (Instr.loadAt 97 (.pointer (some ⟨b, o, none⟩))).run Tryz.prog W = .ok (.agg #[.string p.1, .int .i64 p.2.1, .int .i64 p.2.2]) W := by
  have q0 := h 0 (.string p.1) rfl
  have q1 := h 1 (.int .i64 p.2.1) rfl
  have q2 := h 2 (.int .i64 p.2.2) rfl
  rw [Nat.add_zero] at q0
  clear h
  go_simp
theorem pel_Export {a b : List ExpT} {A B : Option Addr} {n c d : Nat} {w : World} (hn1 : a.length = n) (hn2 : b.length = n) (hbig : n ≤ 100000) (ha : RowG.Row elX w (.slice A n c) a) (hb : RowG.Row elX w (.slice B n d) b) :
    Calls Tryz.prog 55 #[.slice A n c, .slice B n d] w fun e w' => (∃ r : Bool, e = .returned (.bool r) ∧ (r = true ↔ a = b)) ∧ Below w.heap.size w w' := by
  have HN := Lib.hid hn1
  have HM := Lib.hid hn2
  have HA := Lib.hid ha
  have HB := Lib.hid hb
  clear hn1 hn2 ha hb
  go_enter Tryz.func55, Tryz.ntmps55
  go_wp2_with fail
  go_loopw [13] (fun j' wr => ∃ k : Nat, j' = .int .i64 (k : Int) ∧ k ≤ n ∧ (∀ i, i < k → a[i]? = b[i]?) ∧ Below w.heap.size w wr) (fun j' _ => n - (intOf j').toNat)
  case atStart => exact ⟨0, by go_num, Nat.zero_le _, fun i hi => absurd hi (by omega), Below.refl _ _⟩
  case round =>
    obtain ⟨k, rfl, hk, ht, hW⟩ := hrel
    have HALL := Lib.hid ht
    have HW := Lib.hid hW
    clear ht hW
    by_cases hlt : k < n
    · obtain ⟨p1, hx⟩ : ∃ y, a[k]? = some y := ⟨_, List.getElem?_eq_getElem (by rw [HN.out]; exact hlt)⟩
      obtain ⟨p2, hy⟩ : ∃ y, b[k]? = some y := ⟨_, List.getElem?_eq_getElem (by rw [HM.out]; exact hlt)⟩
      have HX := Lib.hid hx
      have HY := Lib.hid hy
      obtain ⟨g1, f1, rfl, hg1, hA1, hok1⟩ := (HA.out.keep HW.out).at_ hx
      obtain ⟨g2, f2, rfl, hg2, hA2, hok2⟩ := (HB.out.keep HW.out).at_ hy
      rw [show (elX.s) = 3 from rfl] at hA1 hA2
      obtain ⟨s1, k1, i1⟩ := p1
      obtain ⟨s2, k2, i2⟩ := p2
      have HLD1 : Hid (∀ W, Below wr.heap.size wr W → (Instr.loadAt 97 (.pointer (some ⟨g1, f1 + k * 3, none⟩))).run Tryz.prog W = .ok (.agg #[.string s1, .int .i64 k1, .int .i64 i1]) W) := Lib.hid fun W hb => ldAt_Export (fun i u hu => by rw [hb.cell (p := ⟨g1, f1 + k * 3 + i, none⟩) hg1]; exact hA1 i u hu)
      have HLD2 : Hid (∀ W, Below wr.heap.size wr W → (Instr.loadAt 97 (.pointer (some ⟨g2, f2 + k * 3, none⟩))).run Tryz.prog W = .ok (.agg #[.string s2, .int .i64 k2, .int .i64 i2]) W) := Lib.hid fun W hb => ldAt_Export (fun i u hu => by rw [hb.cell (p := ⟨g2, f2 + k * 3 + i, none⟩) hg2]; exact hA2 i u hu)
      clear hx hy hA1 hA2 hg1 hg2 hok1 hok2
      have hin1 : (0 : Int) ≤ (k : Int) := by omega
      have hin2 : (k : Int) < (n : Int) := by omega
      have hw1 : IntKind.i64.wrap ((k : Int) + 1) = (k : Int) + 1 := IntWalk.i64_in _ (by omega)
      have hne := fun (x y : Operand) (W : World) => ne_exp s1 k1 i1 s2 k2 i2 x y W
      obtain ⟨bb, hbb⟩ : ∃ bb, (!(decide (s1.toList = s2.toList) && decide (k1 = k2) && decide (i1 = i2))) = bb := ⟨_, rfl⟩
      have HBB := Lib.hid hbb
      rw [hbb] at hne
      clear hbb
      cases bb with
      | true =>
        have HQ : Hid (false = true ↔ a = b) := ⟨fun h => (by cases h), fun h => by
          have h1 := HX.out
          rw [h, HY.out] at h1
          have h2 := Option.some.inj h1
          have h3 := HBB.out
          cases h2
          simp at h3⟩
        go_wp2_with fail
        refine Stab.region 26 [.is (.slice (some ⟨g1, f1, none⟩) n c), .is (.int .i64 (k : Int)), .is (.pointer (some ⟨g1, f1 + k * 3, none⟩)), .is (.agg #[.string s1, .int .i64 k1, .int .i64 i1]), .is (.slice (some ⟨g2, f2, none⟩) n d), .is (.int .i64 (k : Int)), .is (.pointer (some ⟨g2, f2 + k * 3, none⟩)), .is (.agg #[.string s2, .int .i64 k2, .int .i64 i2]), .is (.bool true)] (by kernel_rfl) (by kernel_rfl) rfl rfl ?_ ?_
        · with_reducible refine Stab.steps_cons ?_ ?_ ?_
          · exact Stab.owes_move rfl rfl rfl
          · exact trivial
          with_reducible refine Stab.steps_cons ?_ ?_ ?_
          · exact Stab.owes_move rfl rfl rfl
          · exact trivial
          with_reducible refine Stab.steps_cons ?_ ?_ ?_
          · exact Stab.owes_indexAt rfl rfl rfl (fun W => bat_Export _ _ _ _ _ W hin1 hin2) rfl
          · exact trivial
          with_reducible refine Stab.steps_cons ?_ ?_ ?_
          · exact Stab.owes_load rfl (fun v W hb hv => by subst hv; exact HLD1.out W hb) rfl
          · exact trivial
          with_reducible refine Stab.steps_cons ?_ ?_ ?_
          · exact Stab.owes_move rfl rfl rfl
          · exact trivial
          with_reducible refine Stab.steps_cons ?_ ?_ ?_
          · exact Stab.owes_move rfl rfl rfl
          · exact trivial
          with_reducible refine Stab.steps_cons ?_ ?_ ?_
          · exact Stab.owes_indexAt rfl rfl rfl (fun W => bat_Export _ _ _ _ _ W hin1 hin2) rfl
          · exact trivial
          with_reducible refine Stab.steps_cons ?_ ?_ ?_
          · exact Stab.owes_load rfl (fun v W hb hv => by subst hv; exact HLD2.out W hb) rfl
          · exact trivial
          with_reducible refine Stab.steps_cons ?_ ?_ ?_
          · exact Stab.owes_bin rfl rfl rfl (fun W => hne _ _ W) rfl
          · exact trivial
          exact Stab.steps_nil
        intro W hbW _
        simp only [Act.put, List.setIfInBounds_toArray, List.set_cons_succ, List.set_cons_zero]
        have HBW := Lib.hid (HW.out.trans (hbW.mono HW.out.size))
        clear hbW
        go_wp2_with fail
        exact bodyPost_ret (v := .bool false) (by simp [results, Tryz.results55, go_sem]) rfl ⟨⟨_, rfl, HQ.out⟩, HBW.out⟩
      | false =>
        have HQ : Hid (∀ i, i < k + 1 → a[i]? = b[i]?) := fun i hi => by
          by_cases e : i = k
          · subst e
            rw [HX.out, HY.out]
            have h3 := HBB.out
            simp [tl_inj] at h3
            obtain ⟨⟨rfl, rfl⟩, rfl⟩ := h3
            rfl
          · exact HALL.out i (by omega)
        go_wp2_with fail
        refine Stab.region 26 [.is (.slice (some ⟨g1, f1, none⟩) n c), .is (.int .i64 (k : Int)), .is (.pointer (some ⟨g1, f1 + k * 3, none⟩)), .is (.agg #[.string s1, .int .i64 k1, .int .i64 i1]), .is (.slice (some ⟨g2, f2, none⟩) n d), .is (.int .i64 (k : Int)), .is (.pointer (some ⟨g2, f2 + k * 3, none⟩)), .is (.agg #[.string s2, .int .i64 k2, .int .i64 i2]), .is (.bool false)] (by kernel_rfl) (by kernel_rfl) rfl rfl ?_ ?_
        · with_reducible refine Stab.steps_cons ?_ ?_ ?_
          · exact Stab.owes_move rfl rfl rfl
          · exact trivial
          with_reducible refine Stab.steps_cons ?_ ?_ ?_
          · exact Stab.owes_move rfl rfl rfl
          · exact trivial
          with_reducible refine Stab.steps_cons ?_ ?_ ?_
          · exact Stab.owes_indexAt rfl rfl rfl (fun W => bat_Export _ _ _ _ _ W hin1 hin2) rfl
          · exact trivial
          with_reducible refine Stab.steps_cons ?_ ?_ ?_
          · exact Stab.owes_load rfl (fun v W hb hv => by subst hv; exact HLD1.out W hb) rfl
          · exact trivial
          with_reducible refine Stab.steps_cons ?_ ?_ ?_
          · exact Stab.owes_move rfl rfl rfl
          · exact trivial
          with_reducible refine Stab.steps_cons ?_ ?_ ?_
          · exact Stab.owes_move rfl rfl rfl
          · exact trivial
          with_reducible refine Stab.steps_cons ?_ ?_ ?_
          · exact Stab.owes_indexAt rfl rfl rfl (fun W => bat_Export _ _ _ _ _ W hin1 hin2) rfl
          · exact trivial
          with_reducible refine Stab.steps_cons ?_ ?_ ?_
          · exact Stab.owes_load rfl (fun v W hb hv => by subst hv; exact HLD2.out W hb) rfl
          · exact trivial
          with_reducible refine Stab.steps_cons ?_ ?_ ?_
          · exact Stab.owes_bin rfl rfl rfl (fun W => hne _ _ W) rfl
          · exact trivial
          exact Stab.steps_nil
        intro W hbW _
        simp only [Act.put, List.setIfInBounds_toArray, List.set_cons_succ, List.set_cons_zero]
        have HBW := Lib.hid (HW.out.trans (hbW.mono HW.out.size))
        clear hbW
        go_wp2_with fail
        go_roundw
        case rel => exact ⟨k + 1, by go_num, hlt, HQ.out, HBW.out⟩
        case measure => simp [intOf]; omega
    · have hkn : k = n := by omega
      subst hkn
      have HQ : Hid (true = true ↔ a = b) := ⟨fun _ => by
        apply List.ext_getElem?
        intro i
        by_cases hi : i < k
        · exact HALL.out i hi
        · rw [List.getElem?_eq_none (by rw [HN.out]; omega), List.getElem?_eq_none (by rw [HM.out]; omega)], fun _ => rfl⟩
      go_wp2_with fail
      exact bodyPost_ret (v := .bool true) (by simp [results, Tryz.results55, go_sem]) rfl ⟨by first | exact ⟨_, rfl, HQ.out⟩ | exact .inr ⟨rfl, by have h := HQ.out; simpa using h⟩, HW.out⟩
theorem peqs_Export {a b : List ExpT} {u v : Value} {w : World} (hbig : a.length ≤ 100000) (ha : RowG.Row elX w u a) (hb : RowG.Row elX w v b) :
    Calls Tryz.prog 55 #[u, v] w fun e w' => (∃ r : Bool, e = .returned (.bool r) ∧ (r = true ↔ a = b)) ∧ Below w.heap.size w w' := by
  obtain ⟨A, c, rfl⟩ := row_len ha
  obtain ⟨B, d, rfl⟩ := row_len hb
  by_cases h : a.length = b.length
  · rw [← h] at hb ⊢
    exact pel_Export rfl h.symm hbig ha hb
  · have HQ : Hid (false = true ↔ a = b) := ⟨fun h => (by cases h), fun e => by
      have := congrArg List.length e
      exact absurd this h⟩
    obtain ⟨n, hn⟩ : ∃ n, a.length = n := ⟨_, rfl⟩
    obtain ⟨m, hm⟩ : ∃ n, b.length = n := ⟨_, rfl⟩
    rw [hn, hm] at h ⊢
    have t1 : ((n : Int) != (m : Int)) = true := by simp; omega
    have t1' : (n != m) = true := by simpa using h
    clear h hn hm ha hb hbig
    go_enter Tryz.func55, Tryz.ntmps55
    go_wp2_with fail
    exact bodyPost_ret (v := .bool false) (by simp [results, Tryz.results55, go_sem]) rfl ⟨⟨_, rfl, HQ.out⟩, Below.refl _ _⟩
end Go.Proofs.YtffegkjlgeblbaaGreatDoor.Mdl
end

section
/- What the program tells of what it recovered; the deferred closure of Decode. -/
namespace Go.Proofs.YtffegkjlgeblbaaGreatDoor.Mdl
open Go.RowKit Ints Typ Ins
set_option maxRecDepth 100000
set_option maxHeartbeats 1000000
set_option linter.unusedVariables false
theorem told_nil (w : World) : Calls Tryz.prog 32 #[.nilIface] w fun en w' => en = .returned (.int .i64 0) ∧ w = w' := by
  go_enter Tryz.func32, Tryz.ntmps32
  go_wp2_with fail
  go_ret
  exact ⟨rfl, rfl⟩
theorem run_asF (X : TypeId) (v : Value) (w : World) : (Instr.typeAssert (.iface 125 v) X 125 true).run Tryz.prog w = .ok (.tuple #[v, .bool true]) w := by
  simp [Instr.typeAssert, run_underlying Tryz.underlying125]
theorem told_flt (e : Int) (w : World) : Calls Tryz.prog 32 #[.iface 125 (.agg #[.int .i64 e])] w fun en w' => en = .returned (.int .i64 e) ∧ Below w.heap.size w w' := by
  have ha := fun X W => run_asF X (.agg #[.int .i64 e]) W
  go_enter Tryz.func32, Tryz.ntmps32
  go_wp2_with fail
  go_ret
  exact ⟨rfl, by repeat (first | exact Below.refl _ _ | refine Below.setCell ?_ (Nat.le_refl _) _ | refine Below.alloc ?_ (Nat.le_refl _) _)⟩
theorem dec1_flt (r : Nat) (x e : Int) (older : List PanicEntry) (w : World) (hc : w.cell? ⟨r, 0, none⟩ = some (.int .i64 x)) (hz : w.frozen? ⟨r, 0, none⟩ = false) :
    CallsD Tryz.prog 31 #[.pointer (some ⟨r, 0, none⟩)] (.panicking ({ v := .iface 125 (.agg #[.int .i64 e]), recovered := false } :: older)) w fun en u' w' =>
      en = .returned (.tuple #[]) ∧ u' = .panicking ({ v := .iface 125 (.agg #[.int .i64 e]), recovered := true } :: older) ∧ ∃ w1, Below w.heap.size w w1 ∧ w' = w1.setCell ⟨r, 0, none⟩ (.int .i64 e) := by
  refine callsD_of_wpS Tryz.func31 rfl fun c₀ cs hu => ?_
  apply wpS_region
  simp [wpOpsS, go_sem, recoverD, hu, Tryz.ntmps31]
  refine (told_flt e w).mono ?_
  rintro en w1 ⟨rfl, hb⟩
  have hl : r < w.heap.size := World.block_lt_of_cell? w ⟨r, 0, none⟩ hc
  have hc1 : w1.cell? ⟨r, 0, none⟩ = some (.int .i64 x) := by rw [hb.cell (p := ⟨r, 0, none⟩) hl]; exact hc
  have hz1 : w1.frozen? ⟨r, 0, none⟩ = false := by rw [hb.frozen (p := ⟨r, 0, none⟩) hl]; exact hz
  simp [go_sem, hc1, hz1, bodyPostS, results, Tryz.results31]
  exact ⟨w1, hb, rfl⟩
theorem dec1_ret (r : Nat) (x : Int) (w : World) (hc : w.cell? ⟨r, 0, none⟩ = some (.int .i64 x)) (hz : w.frozen? ⟨r, 0, none⟩ = false) :
    CallsD Tryz.prog 31 #[.pointer (some ⟨r, 0, none⟩)] .returning w fun en u' w' =>
      en = .returned (.tuple #[]) ∧ u' = .returning ∧ w' = w.setCell ⟨r, 0, none⟩ (.int .i64 0) := by
  refine callsD_of_wpS Tryz.func31 rfl fun c₀ cs hu => ?_
  apply wpS_region
  simp [wpOpsS, go_sem, recoverD, hu, Tryz.ntmps31]
  refine (told_nil w).mono ?_
  rintro en w1 ⟨rfl, rfl⟩
  simp [go_sem, hc, hz, bodyPostS, results, Tryz.results31]
  cases c₀
  simp_all
end Go.Proofs.YtffegkjlgeblbaaGreatDoor.Mdl
end

section
/- The program's writer: put and number, and all that stays. -/
namespace Go.Proofs.YtffegkjlgeblbaaGreatDoor.Mdl
open Go.RowKit Ints Typ Ins
set_option maxRecDepth 100000
set_option maxHeartbeats 4000000
set_option linter.unusedVariables false
def wOwn (w : World) (g : Nat) : Option Nat := match w.heap[g]? with
  | some (.cells cs _ _) => (match cs[0]? with | some v => v.ownBlock | none => none)
  | _ => none
theorem wOwn_at {w : World} {g : Nat} {v d : Value} {t : TypeId} (h : w.heap[g]? = some (.cells #[v, d] t (0, 0))) : wOwn w g = v.ownBlock := by
  unfold wOwn
  rw [h]
  rfl
theorem wOwn_set {w : World} {g : Nat} {v d : Value} {t : TypeId} (h : w.heap[g]? = some (.cells #[v, d] t (0, 0))) (u : Value) : wOwn (w.setCell ⟨g, 1, none⟩ u) g = wOwn w g := by
  have h2 : (w.setCell ⟨g, 1, none⟩ u).heap[g]? = some (.cells #[v, u] t (0, 0)) := by have := heap_setCell_in (k := 1) h u; simpa using this
  rw [wOwn_at h2, wOwn_at h]
def SameF (g : Nat) (w w' : World) : Prop := ∀ k, k < w.heap.size → k ≠ g → some k ≠ wOwn w g → w'.heap[k]? = w.heap[k]?
theorem wputF {w : World} {g : Nat} {b : List Int} {bad : Bool} {v : Value} {l : List Int} (e : Int) (h : WS w g b bad) (hs : Sl w v l) (hl : l.length ≤ 100000000) :
    Calls Tryz.prog 189 #[.pointer (some ⟨g, 0, none⟩), v, .int .i64 e] w (fun en w' => WTold g b bad (e == 0) l w en w' ∧ SameF g w w') := by
  have H := Lib.hid h
  have HS := Lib.hid hs
  obtain ⟨⟨P, c, h1, h2⟩, h3⟩ := id h
  obtain ⟨A, cl, rfl, _⟩ := id hs
  obtain ⟨n, hn⟩ : ∃ n, l.length = n := ⟨_, rfl⟩
  obtain ⟨k, hk⟩ : ∃ k, b.length = k := ⟨_, rfl⟩
  have HN := Lib.hid hn
  have HK := Lib.hid hk
  rw [hk] at h1 h2 h3
  rw [hn] at hl HS ⊢
  have H1 := Lib.hid h1
  have HOWN : Hid (wOwn w g = (Value.slice P k c).ownBlock) := Lib.hid (wOwn_at h1)
  have HO := Lib.hid h2
  have c0 := (Sec.cells_at h1 0).1
  have c1 := (Sec.cells_at h1 1).1
  have f0 := (Sec.cells_at h1 0).2
  have f1 := (Sec.cells_at h1 1).2
  clear h1 h2 hn hk hs h
  have hw : IntKind.i64.wrap (65536 - (k : Int)) = 65536 - (k : Int) := IntWalk.i64_in _ (by omega)
  obtain ⟨ez, hez⟩ : ∃ r, (e == 0) = r := ⟨_, rfl⟩
  rw [hez]
  by_cases hf : k + n ≤ 65536
  · have t1 : decide ((n : Int) ≤ 65536 - (k : Int)) = true := decide_eq_true (by omega)
    have HF := Lib.hid hf
    have HD := Lib.hid (H.out.set1 (bad || !ez))
    have HSD := Lib.hid (sl_far HS.out H1.out (by intro x e; cases e) (by intro x e; cases e) 1 (.bool (bad || !ez)))
    have HWN := Lib.hid (wneed ez H.out)
    clear hf
    obtain ⟨W1, hW1⟩ : ∃ W, w.setCell ⟨g, 1, none⟩ (.bool (bad || !ez)) = W := ⟨_, rfl⟩
    have HSJ : Hid (W1.heap.size = w.heap.size ∧ (∀ j, j ≠ g → W1.heap[j]? = w.heap[j]?) ∧ wOwn W1 g = wOwn w g) := Lib.hid (by rw [← hW1]; exact ⟨by simp [World.setCell], fun j hj => Below.heap_setCell _ _ _ _ (by simp only; omega), wOwn_set H1.out _⟩)
    have HFR : Hid (WFr g w W1) := Lib.hid (by rw [← hW1]; exact (WFr.refl g w).setCell _ _)
    rw [hW1] at HD HSD HWN
    clear hW1
    cases ez <;> (
      go_enter Tryz.func189, Tryz.ntmps189
      go_wp2_with fail
      refine HWN.out.mono ?_
      rintro en w1 ⟨rfl, hw1⟩
      obtain rfl : W1 = w1 := hw1.symm
      obtain ⟨⟨P1, d1, h1, h2⟩, _⟩ := id HD.out
      rw [HK.out] at h1 h2
      have HO1 := Lib.hid h2
      have HH1 := Lib.hid h1
      have c0' := (Sec.cells_at h1 0).1
      clear h1 h2 c0 c1 f0 f1
      go_wp2_with (at_builtin; refine Sec.stop_ ?_)
      refine Lib.hid ?_
      refine wp_byW W1 rfl (.tmp 28) (.tmp 29) rfl (g + 1) _ b l rfl HO1.out A cl ?_ ?_ ?_ ?_ ?_
      focus (rw [HN.out]; rfl)
      focus (rw [HN.out]; exact HSD.out)
      focus (have := HF.out; rw [HN.out, HK.out]; omega)
      focus (exact HD.out.lt)
      intro v3 w3 ho3 hb3 hk3
      obtain ⟨P3, c3, rfl⟩ : ∃ P c, v3 = .slice P (k + n) c := by
        obtain ⟨_, ⟨e1, e2⟩ | ⟨g', cap, cur, e1, _⟩⟩ := id ho3
        · exact ⟨none, 0, by rw [e1]; rw [List.length_append, HN.out, HK.out] at e2; rw [e2]⟩
        · exact ⟨_, _, by rw [e1, List.length_append, HN.out, HK.out]⟩
      have HFIN := Lib.hid (ws_put HD.out HO1.out ho3 (by rw [List.length_append, HN.out, HK.out]) hb3 hk3 HF.out)
      have HSF : Hid (SameF g w (w3.setCell ⟨g, 0, none⟩ (.slice P3 (k + n) c3))) := Lib.hid (by
        intro j hj hg ho
        rw [Below.heap_setCell _ _ _ _ (by simp only; omega), hk3 j (by rw [HSJ.out.1]; exact hj) ?_, HSJ.out.2.1 j hg]
        rw [← HSJ.out.2.2, wOwn_at HH1.out] at ho
        exact ho)
      have q3 := (hb3.block g (Nat.lt_succ_self _)).trans HH1.out
      have d0 := (Sec.cells_at q3 0).1
      have d1 := (Sec.cells_at q3 0).2
      clear ho3 hb3 hk3 q3 c0'
      go_wp2_with fail
      exact bodyPost_end (v := .tuple #[]) (by simp [results, Tryz.results189, go_sem]) rfl ⟨⟨_, _, rfl, HFIN.out.1, by first | (cases bad <;> first | exact Puts.yes (by have := HF.out; rw [HN.out, HK.out]; exact this) | exact Puts.bad) | (cases bad <;> exact Puts.no), HFR.out.trans HFIN.out.2⟩, HSF.out⟩)
  · have t1 : decide ((n : Int) ≤ 65536 - (k : Int)) = false := decide_eq_false (by omega)
    have HF : Hid (¬ b.length + l.length ≤ 65536) := Lib.hid (by rw [HN.out, HK.out]; exact hf)
    have HD := Lib.hid (H.out.set1 (bad || !false))
    have HWN := Lib.hid (wneed false H.out)
    clear hf
    obtain ⟨W1, hW1⟩ : ∃ W, w.setCell ⟨g, 1, none⟩ (.bool (bad || !false)) = W := ⟨_, rfl⟩
    have HSJ : Hid (W1.heap.size = w.heap.size ∧ (∀ j, j ≠ g → W1.heap[j]? = w.heap[j]?) ∧ wOwn W1 g = wOwn w g) := Lib.hid (by rw [← hW1]; exact ⟨by simp [World.setCell], fun j hj => Below.heap_setCell _ _ _ _ (by simp only; omega), wOwn_set H1.out _⟩)
    have HFR : Hid (WFr g w W1) := Lib.hid (by rw [← hW1]; exact (WFr.refl g w).setCell _ _)
    rw [hW1] at HD HWN
    clear hW1
    cases ez <;> (
      go_enter Tryz.func189, Tryz.ntmps189
      go_wp2_with fail
      refine HWN.out.mono ?_
      rintro en w1 ⟨rfl, hw1⟩
      obtain rfl : W1 = w1 := hw1.symm
      clear c0 c1 f0 f1
      go_wp2_with fail
      exact bodyPost_end (v := .tuple #[]) (by simp [results, Tryz.results189, go_sem]) rfl ⟨⟨_, _, rfl, HD.out, by cases bad <;> exact Puts.full HF.out, HFR.out⟩, fun j hj hg _ => HSJ.out.2.1 j hg⟩)
theorem wnumF {w : World} {g : Nat} {b : List Int} {bad : Bool} (n : Nat) (hn : n ≤ 100000) (h : WS w g b bad) :
    Calls Tryz.prog 149 #[.pointer (some ⟨g, 0, none⟩), .int .i64 (n : Int)] w (fun en w' => WTold g b bad true (Leb.uB n) w en w' ∧ SameF g w w') := by
  have HX : Hid (IntKind.u64.wrap (n : Int) = (n : Int)) := Lib.hid (by rw [IntKind.wrap_u64]; omega)
  have hX := HX.out
  obtain ⟨⟨P, c, h1, _⟩, _⟩ := id h
  have HWN := Lib.hid (wneed true h)
  have HD := Lib.hid (h.set1 (bad || !true))
  obtain ⟨W1, hW1⟩ : ∃ W, w.setCell ⟨g, 1, none⟩ (.bool (bad || !true)) = W := ⟨_, rfl⟩
  have HFR : Hid (WFr g w W1) := Lib.hid (by rw [← hW1]; exact (WFr.refl g w).setCell _ _)
  have HSJ : Hid (W1.heap.size = w.heap.size ∧ (∀ j, j ≠ g → W1.heap[j]? = w.heap[j]?) ∧ wOwn W1 g = wOwn w g) := Lib.hid (by rw [← hW1]; exact ⟨by simp [World.setCell], fun j hj => Below.heap_setCell _ _ _ _ (by simp only; omega), wOwn_set h1 _⟩)
  rw [hW1] at HD HWN
  have HU := Lib.hid (Leb.U_any none 0 n [] W1 (Leb.byt_nil _ _ _) (by simp) (by omega))
  rw [List.nil_append] at HU
  have HUL : Hid ((Leb.uB n).length ≤ 100000000) := Lib.hid (by rw [Leb.uB_len]; have := Leb.lenU_ten (v := n) (by omega); omega)
  have t1 : decide (0 ≤ (n : Int)) = true := decide_eq_true (by omega)
  have t2 : decide ((n : Int) ≤ 4294967295) = true := decide_eq_true (by omega)
  clear hW1 h h1
  go_enter Tryz.func149, Tryz.ntmps149
  go_wp2_with fail
  refine HWN.out.mono ?_
  rintro en w1 ⟨rfl, hw1⟩
  obtain rfl : W1 = w1 := hw1.symm
  go_wp2_with fail
  refine HU.out.mono ?_
  rintro en w2 ⟨v2, rfl, ho2, hb2⟩
  have HO2 := Lib.hid (own_sl ho2)
  have HD2 := Lib.hid (HD.out.keep hb2)
  have HF2 := Lib.hid (HFR.out.trans (WFr.of_below hb2 HD.out.lt))
  have HB2 := Lib.hid hb2
  clear ho2 hb2
  go_wp2_with fail
  refine (wputF 0 HD2.out HO2.out HUL.out).mono ?_
  rintro en w3 ⟨⟨b', bad', rfl, e2, e3, e4⟩, hsf⟩
  have HE : Hid (WTold g b bad true (Leb.uB n) w (.returned (.tuple #[])) w3 ∧ SameF g w w3) := Lib.hid (by
    refine ⟨⟨b', bad', rfl, e2, Puts.after (ok := true) e3, HF2.out.trans e4⟩, fun k hk hg ho => ?_⟩
    have hk1 : k < W1.heap.size := by rw [HSJ.out.1]; exact hk
    have hg1 : g < W1.heap.size := HD.out.lt
    have hown : wOwn w2 g = wOwn W1 g := by unfold wOwn; rw [HB2.out.block g hg1]
    rw [hsf k (Nat.lt_of_lt_of_le hk1 HB2.out.size) hg (by rw [hown, HSJ.out.2.2]; exact ho), HB2.out.block k hk1, HSJ.out.2.1 k hg])
  clear e2 e3 e4 hsf
  go_wp2_with fail
  exact bodyPost_end (v := .tuple #[]) (by simp [results, Tryz.results149, go_sem]) rfl HE.out
end Go.Proofs.YtffegkjlgeblbaaGreatDoor.Mdl
end
