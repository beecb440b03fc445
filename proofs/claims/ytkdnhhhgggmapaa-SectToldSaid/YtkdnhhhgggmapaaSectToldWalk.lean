/- SectTold walked: what is split is joined in no more bytes; each section is found that is the first of its ID. -/
import Derived.Test.YtkdnhhhgggmapaaSectFindsWalk
namespace Go.Proofs.Ytkdnhhhgggmapaa.Sec
open Go.RowKit Utf
set_option maxRecDepth 100000
set_option maxHeartbeats 1000000
set_option linter.unusedVariables false
theorem may_above : ∀ (l : List Sct) (last : Int), mayb last l = true → ∀ p ∈ l, p.1 ≠ 0 → last < p.1
  | [], _, _, p, hp, _ => by cases hp
  | q :: l, last, h, p, hp, h0 => by
    obtain ⟨m1, m2⟩ := may_cons h
    rcases List.mem_cons.1 hp with rfl | hp
    · exact may1_lt m1 h0
    · have := may_above l _ m2 p hp h0
      omega
theorem fnd_may : ∀ (l : List (Sct × Value)) (last : Int), mayb last (scL l) = true → ∀ (i : Nat) (p : Sct × Value), l[i]? = some p → p.1.1 ≠ 0 → fnd l p.1.1 = some p
  | [], _, _, i, p, h, _ => by simp at h
  | q :: l, last, hm, 0, p, h, _ => by
    simp at h
    subst h
    unfold fnd
    rw [List.find?_cons]
    simp
  | q :: l, last, hm, i + 1, p, h, h0 => by
    rw [List.getElem?_cons_succ] at h
    obtain ⟨m1, m2⟩ := may_cons (l := scL l) (p := q.1) hm
    have hlt := may_above (scL l) _ m2 p.1 (List.mem_of_getElem? (scL_get h)) h0
    have hne : (q.1.1 == p.1.1) = false := by simp; omega
    have := fnd_may l _ m2 i p h h0
    unfold fnd at this ⊢
    rw [List.find?_cons, hne]
    exact this
theorem fnd_some {l : List (Sct × Value)} {i : Nat} {p : Sct × Value} (h : l[i]? = some p) : (fnd l p.1.1).isSome = true := by
  unfold fnd
  rw [List.find?_isSome]
  exact ⟨p, List.mem_of_getElem? h, by simp⟩
theorem fnd_none {l : List (Sct × Value)} {d : Int} (h : ∀ p ∈ scL l, p.1 ≠ d) : fnd l d = none := by
  unfold fnd
  rw [List.find?_eq_none]
  intro p hp
  have := h p.1 (List.mem_map.2 ⟨p, hp, rfl⟩)
  simpa using this
theorem secs_mem : ∀ (L : List Sct) (p : Sct), p ∈ L → p.2.length ≤ (secsB L).length
  | q :: L, p, h => by
    rw [secsB_len]
    rcases List.mem_cons.1 h with rfl | h
    · omega
    · have := secs_mem L p h
      omega
theorem told_law {A : Option Addr} {n c : Nat} {b : List Int} {w : World} (hn : b.length = n) (hs : Sl w (.slice A n c) b) (hby : ∀ x ∈ b, 0 ≤ x ∧ x < 256) :
    Calls Try.prog 5 #[.slice A n c] w fun e w' => e = .returned (.bool true) ∧ Below w.heap.size w w' := by
  have HN := Lib.hid hn
  have HS := Lib.hid hs
  have HBY := Lib.hid hby
  clear hn hs hby
  by_cases hbig : 70000 < n
  · have t1 : decide ((70000 : Int) < (n : Int)) = true := decide_eq_true (by omega)
    have t1' : decide (70000 < n) = true := decide_eq_true hbig
    clear hbig
    go_enter Try.func5, Try.ntmps5
    go_wp2_with fail
    refine (awake_any _).mono ?_
    rintro en w1 ⟨rfl, hb1⟩
    have HB1 := Lib.hid hb1
    clear hb1
    go_wp2_with fail
    exact bodyPost_ret (v := .bool true) (by simp [results, Try.results5, go_sem]) rfl ⟨rfl, HB1.out⟩
  · have t1 : decide ((70000 : Int) < (n : Int)) = false := decide_eq_false (by omega)
    have t1' : decide (70000 < n) = false := decide_eq_false hbig
    obtain ⟨⟨L, E⟩, hq⟩ : ∃ R, split7 b = R := ⟨_, rfl⟩
    obtain ⟨nL, hnL⟩ : ∃ nL, L.length = nL := ⟨_, rfl⟩
    have HQ := Lib.hid hq
    have HNL := Lib.hid hnL
    by_cases hE : E = 0
    · subst hE
      obtain ⟨hm, hlen, hle⟩ := split_told HBY.out hq
      have hlong := secs_long L
      have HM := Lib.hid hm
      have HLEN : Hid (8 + (secsB L).length ≤ n) := Lib.hid (by rw [← HN.out]; exact hlen)
      have hnl8 : nL ≤ 80000 := by omega
      have HDL : Hid (∀ p ∈ L, p.2.length ≤ 1000000) := Lib.hid fun p hp => by have := secs_mem L p hp; omega
      have HJ : Hid (join7 L = (hd8 ++ secsB L, 0)) := Lib.hid (join_ok hm (by omega))
      clear hq hnL hm hlen hle hlong
      go_enter Try.func5, Try.ntmps5
      go_wp2_with fail
      refine (awake_any _).mono ?_
      rintro en w1 ⟨rfl, hb1⟩
      have HB1 := Lib.hid hb1
      clear hb1
      go_wp2_with fail
      refine (psplit_at (HS.out.keep HB1.out) HBY.out HQ.out HNL.out).mono ?_
      rintro en w2 ⟨A2, c2, l2, rfl, hr2, hl2, hn2, hb2⟩
      have HB2 := Lib.hid (HB1.out.trans (hb2.mono HB1.out.size))
      have HR2 := Lib.hid hr2
      have HL2 := Lib.hid hl2
      have HN2 := Lib.hid hn2
      have HD2 : Hid (∀ p ∈ l2, p.1.2.length ≤ 1000000) := Lib.hid fun p hp => HDL.out p.1 (by rw [← hl2]; exact List.mem_map.2 ⟨p, hp, rfl⟩)
      clear hr2 hl2 hn2 hb2
      go_wp2_with fail
      refine (pjoin_any HN2.out HR2.out hnl8 HD2.out).mono ?_
      rintro en w3 ⟨⟨g3, n3, c3, rfl, hn3, _, _⟩, hb3⟩
      rw [HL2.out, HJ.out] at hn3 ⊢
      simp only at hn3 ⊢
      have hn3n : n3 ≤ n := by rw [hn3, List.length_append]; exact HLEN.out
      have HB3 := Lib.hid (HB2.out.trans (hb3.mono HB2.out.size))
      have HR3 := Lib.hid (HR2.out.keep hb3)
      clear hb3 hn3
      go_wp2_with fail
      go_loopw [8] (fun i' wr => ∃ i : Nat, i' = .int .i64 (i : Int) ∧ i ≤ nL ∧ ScRow wr (.slice A2 nL c2) l2 ∧ Below w.heap.size w wr) (fun i' _ => nL - (intOf i').toNat)
      case atStart => exact ⟨0, by go_num, by omega, HR3.out, HB3.out⟩
      case round =>
        obtain ⟨i, rfl, hi, hrow, hW⟩ := hrel
        have HROW := Lib.hid hrow
        have HW := Lib.hid hW
        clear hrow hW
        by_cases hlt : i < nL
        · obtain ⟨y, hy⟩ : ∃ y, l2[i]? = some y := ⟨_, List.getElem?_eq_getElem (by rw [HN2.out]; exact hlt)⟩
          obtain ⟨g, off, rfl, hC, hO⟩ := HROW.out.at_ hy
          have HC := Lib.hid hC
          have HG := Lib.hid (sc_lt hC)
          have HFS := Lib.hid (fnd_some hy)
          have HFM := Lib.hid (fnd_may l2 0 (by rw [HL2.out]; exact HM.out) i y hy)
          obtain ⟨P, cd, hp, _⟩ := id hO.1
          have HO := Lib.hid hO
          have hx0 := mayb_mem _ _ HM.out y.1 (by rw [← HL2.out]; exact List.mem_map.2 ⟨y, List.mem_of_getElem? hy, rfl⟩)
          obtain ⟨⟨x, B⟩, ov⟩ := y
          obtain ⟨q1, q2⟩ := hC
          simp only at q1 q2 hp HFS HFM hx0
          obtain ⟨k, hk⟩ : ∃ k, B.length = k := ⟨_, rfl⟩
          rw [hk] at hp
          subst hp
          have HK := Lib.hid hk
          clear hy hO hk
          have i1 : (0 : Int) ≤ (i : Int) := by omega
          have i2 : (i : Int) < (nL : Int) := by omega
          have hw1 : IntKind.i64.wrap ((i : Int) + 1) = (i : Int) + 1 := IntWalk.i64_in _ (by omega)
          go_wp2_with fail
          refine (pfind_any x HN2.out HROW.out HD2.out).mono ?_
          rintro en w4 ⟨⟨g4, n4, c4, rfl, hs4, hn4⟩, hb4⟩
          rw [HFS.out]
          have HB4 := Lib.hid (HW.out.trans (hb4.mono HW.out.size))
          have HROW4 := Lib.hid (HROW.out.keep hb4)
          have HWD : Hid (∀ m, Below w.heap.size w (w4.drewN m)) := Lib.hid fun m => HB4.out.trans (drewNB _ m HB4.out.size)
          have HROWD : Hid (∀ m, ScRow (w4.drewN m) (.slice (some ⟨g, off, none⟩) nL c2) l2) := Lib.hid fun m => HROW4.out.keep (drewNB _ m (Nat.le_refl _))
          obtain ⟨r1, r2⟩ := HC.out.keep HG.out hb4
          simp only at r1 r2
          have HO4 := Lib.hid (HO.out.keep hb4)
          by_cases hz : x = 0
          · have t3 : decide (0 < x) = false := decide_eq_false (by omega)
            clear hs4 hn4 hb4 q1 q2
            go_wp2_with fail
            go_big_quiet (fail)
            go_wp2_with fail
            go_roundw
            case rel => exact ⟨i + 1, by go_num, hlt, HROWD.out _, HWD.out _⟩
            case measure => simp [intOf]; omega
          · have t3 : decide (0 < x) = true := decide_eq_true (by omega)
            rw [HFM.out hz] at hs4
            have e1 : ∀ m, (convert 22 9 (.slice P k cd)).run Try.prog (w4.drewN m) = .ok (.string (strOfNums B)) (w4.drewN m) := fun m => sl_txt (HO4.out.1.keep (drewNB _ m (Nat.le_refl _)))
            have e2 : ∀ m, (convert 22 9 (.slice g4 n4 c4)).run Try.prog (w4.drewN m) = .ok (.string (strOfNums B)) (w4.drewN m) := fun m => sl_txt (hs4.keep (drewNB _ m (Nat.le_refl _)))
            generalize strOfNums B = S1 at e1 e2
            have t2 : (S1.toList == S1.toList) = true := by simp
            clear hs4 hn4 hb4 q1 q2
            go_wp2_with fail
            go_big_quiet (fail)
            go_wp2_with fail
            go_roundw
            case rel => exact ⟨i + 1, by go_num, hlt, HROWD.out _, HWD.out _⟩
            case measure => simp [intOf]; omega
        · have hin : i = nL := by omega
          subst hin
          have HF12 : Hid (fnd l2 12 = none) := Lib.hid (fnd_none fun p hp => by
            rw [HL2.out] at hp
            have := mayb_mem _ _ HM.out p hp
            omega)
          have t5 : decide (n3 ≤ n) = true := decide_eq_true hn3n
          have t5' : decide ((n3 : Int) ≤ (n : Int)) = true := decide_eq_true (by omega)
          go_wp2_with fail
          refine (pfind_any 12 HN2.out HROW.out HD2.out).mono ?_
          rintro en w4 ⟨⟨g4, n4, c4, rfl, _, _⟩, hb4⟩
          rw [HF12.out]
          have HB4 := Lib.hid (HW.out.trans (hb4.mono HW.out.size))
          clear hb4
          simp only [Option.isSome]
          go_wp2_with fail
          exact bodyPost_ret (v := .bool true) (by simp [results, Try.results5, go_sem]) rfl ⟨rfl, HB4.out⟩
    · have hL : L = [] := split_err hq hE
      subst hL
      have hn0 : nL = 0 := hnL.symm
      subst hn0
      have hE1 : (E != 0) = true := by simpa using hE
      clear hq hE hnL
      go_enter Try.func5, Try.ntmps5
      go_wp2_with fail
      refine (awake_any _).mono ?_
      rintro en w1 ⟨rfl, hb1⟩
      have HB1 := Lib.hid hb1
      clear hb1
      go_wp2_with fail
      refine (psplit_at (HS.out.keep HB1.out) HBY.out HQ.out HNL.out).mono ?_
      rintro en w2 ⟨A2, c2, l2, rfl, _, _, _, hb2⟩
      have HB2 := Lib.hid (HB1.out.trans (hb2.mono HB1.out.size))
      clear hb2
      go_wp2_with fail
      exact bodyPost_ret (v := .bool true) (by simp [results, Try.results5, go_sem]) rfl ⟨rfl, HB2.out⟩
theorem told_any {a : Option Addr} {len cap : Nat} {zs : List Int} {w : World} (h : Leb.Came .u8 w a len cap zs) : Calls Try.prog 5 #[.slice a len cap] w fun e w' => e = .returned (.bool true) ∧ Below w.heap.size w w' := by
  obtain ⟨h1, h2⟩ := came_sl h
  exact told_law h.byt.2.1 h1 h2
end Go.Proofs.Ytkdnhhhgggmapaa.Sec
