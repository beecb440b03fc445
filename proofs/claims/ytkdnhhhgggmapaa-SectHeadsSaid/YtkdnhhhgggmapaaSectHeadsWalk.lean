/- SectHeads walked: a module's first eight bytes are those of a module; its sections' sizes, and IDs, come to all of its bytes. -/
import Derived.Test.YtkdnhhhgggmapaaSectBackWalk
namespace Go.Proofs.Ytkdnhhhgggmapaa.Sec
open Go.RowKit Utf
set_option maxRecDepth 100000
set_option maxHeartbeats 1000000
set_option linter.unusedVariables false
theorem i64_and7 (n : Int) : bits .and .i64 n 7 = n % 8 := by
  have h : (BitVec.ofInt 64 7).toNat = 2 ^ 3 - 1 := by decide
  have key : (BitVec.ofInt 64 n &&& BitVec.ofInt 64 7).toNat = (n % ((2 ^ 64 : Nat) : Int)).toNat % 2 ^ 3 := by
    rw [BitVec.toNat_and, BitVec.toNat_ofInt, h, Nat.and_two_pow_sub_one_eq_mod]
  show IntKind.i64.wrap ((BitVec.ofInt 64 n &&& BitVec.ofInt 64 7).toNat : Nat) = n % 8
  rw [key, IntKind.wrap_i64]
  omega
/-- A byte is written. -/
theorem Wri.cell {w : World} {B g n c j : Nat} {l : List Int} (h : Wri w B (.slice (some ⟨g, 0, none⟩) n c) l) (hj : j < l.length) : w.cell? ⟨g, j, none⟩ = some (.int .u8 (l.getD j 0)) ∧ w.frozen? ⟨g, j, none⟩ = false ∧ B ≤ g := by
  obtain ⟨g', c', cur, fz, e1, _, _, hB, hh, hfz, ht⟩ := h
  injection e1 with e1 _ _
  simp only [Option.some.injEq, Addr.mk.injEq, and_true] at e1
  subst e1
  refine ⟨?_, ?_, hB⟩
  · simp only [World.cell?, hh]
    have h1 : cur.toList[j]? = some (.int .u8 (l.getD j 0)) := by
      have h2 : (cur.toList.take l.length)[j]? = some (.int .u8 (l.getD j 0)) := by
        rw [ht]
        unfold Leb.vb
        rw [List.getElem?_map, List.getElem?_eq_getElem hj, List.getD_eq_getElem?_getD, List.getElem?_eq_getElem hj]
        rfl
      rw [List.getElem?_take, if_pos hj] at h2
      exact h2
    simpa using h1
  · have := hfz j hj
    simp only [World.frozen?, hh]
    simp
    omega
theorem Wri.set {w : World} {B g n c j : Nat} {l : List Int} {y : Int} (h : Wri w B (.slice (some ⟨g, 0, none⟩) n c) l) (hn : n = l.length) (hj : j < l.length) : Sl (w.setCell ⟨g, j, none⟩ (.int .u8 y)) (.slice (some ⟨g, 0, none⟩) n c) (l.set j y) := by
  have hc := h.cell hj
  obtain ⟨g', c', cur, fz, e1, h1, h2, hB, hh, hfz, ht⟩ := id h
  injection e1 with e1 e2 e3
  simp only [Option.some.injEq, Addr.mk.injEq, and_true] at e1
  subst e1 e3
  refine ⟨_, c, by rw [List.length_set, hn], by rw [List.length_set]; exact h1, h2, fun _ => ⟨g, 0, rfl, ?_, rfl, fun i hi => ?_⟩⟩
  · have := (Array.getElem?_eq_some_iff.1 hh).1
    simpa [World.setCell] using this
  · rw [List.length_set] at hi
    simp only [Nat.zero_add]
    by_cases e : j = i
    · subst e
      rw [World.cell?_setCell_same' _ _ _ (by rw [hc.1]; rfl)]
      rw [List.getD_eq_getElem?_getD, List.getElem?_set_self hj]
      rfl
    · rw [World.cell?_setCell_other _ _ _ _ (by intro e2; exact e (congrArg Addr.off e2)), (h.cell hi).1]
      rw [List.getD_eq_getElem?_getD, List.getD_eq_getElem?_getD, List.getElem?_set_ne e]
theorem set_same {l : List Int} {j : Nat} (h : j < l.length) : l.set j (l.getD j 0) = l := by
  rw [List.getD_eq_getElem?_getD, List.getElem?_eq_getElem h]
  simp
theorem head_set {T : List Int} {j : Nat} {y : Int} (hj : j < 8) (hT : T.take 8 = hd8) (hl : 8 ≤ T.length) (hl2 : T.length ≤ 65536) (hy : y ≠ hd8.getD j 0) : split7 (T.set j y) = ([], 3) := by
  have hne : (T.set j y).take 8 ≠ hd8 := by
    intro e
    have h1 : ((T.set j y).take 8)[j]? = some y := by
      rw [List.getElem?_take, if_pos hj, List.getElem?_set_self (by omega)]
    rw [e] at h1
    rw [List.getD_eq_getElem?_getD, h1] at hy
    exact hy rfl
  unfold split7
  rw [List.length_set, if_neg (by omega), if_neg (by omega), if_pos hne]
theorem heads_law {l : List (Sct × Value)} {A : Option Addr} {n c : Nat} {w : World} (d ch : Int) (hch : 0 ≤ ch ∧ ch < 256) (hn : l.length = n) (hr : ScRow w (.slice A n c) l) :
    Calls Try.prog 8 #[.slice A n c, .int .i64 d, .int .u8 ch] w fun e w' => e = .returned (.bool true) ∧ Below w.heap.size w w' := by
  have HN := Lib.hid hn
  have HR := Lib.hid hr
  have HCH := Lib.hid hch
  obtain ⟨j, hj, hj8⟩ : ∃ j : Nat, bits .and .i64 d 7 = (j : Int) ∧ j < 8 := ⟨(d % 8).toNat, by rw [i64_and7]; omega, by omega⟩
  clear hn hr hch
  go_enter Try.func8, Try.ntmps8
  go_wp2_with fail
  refine (awake_any _).mono ?_
  rintro en w1 ⟨rfl, hb1⟩
  have HB1 := Lib.hid hb1
  clear hb1
  go_wp2_with fail
  refine (fews_any HN.out (HR.out.keep HB1.out)).mono ?_
  rintro en w2 ⟨⟨b, rfl, hb⟩, rfl⟩
  cases b with
  | false =>
    clear hb
    go_wp2_with fail
    exact bodyPost_ret (v := .bool true) (by simp [results, Try.results8, go_sem]) rfl ⟨rfl, HB1.out⟩
  | true =>
    obtain ⟨hf1, hf2⟩ := few_len (hb.1 rfl) HN.out
    have HF2 := Lib.hid hf2
    clear hb hf2
    go_wp2_with fail
    refine (ours_any HN.out (HR.out.keep HB1.out) (by omega)).mono ?_
    rintro en w3 ⟨⟨P3, c3, rfl, ho3⟩, hb3⟩
    have HB3 := Lib.hid (HB1.out.trans (hb3.mono HB1.out.size))
    have HR3 := Lib.hid (ours_row HR.out ho3 HB3.out)
    clear hb3 ho3
    go_wp2_with fail
    refine (pjoin_any HN.out HR3.out (by omega) (fun p hp => by have := HF2.out p hp; omega)).mono ?_
    rintro en w4 ⟨⟨g4, n4, c4, rfl, hn4, hw4, hs4⟩, hb4⟩
    have HB4 := Lib.hid (HB3.out.trans (hb4.mono HB3.out.size))
    clear hb4
    rcases join_cases (scL l) with ⟨E, hjn, hE⟩ | ⟨hm, hlen, hjn⟩
    · rw [hjn] at hn4 ⊢
      have h0 : n4 = 0 := hn4
      subst h0
      have hE1 : (E != 0) = true := by rcases hE with rfl | rfl <;> rfl
      clear hn4 hw4 hs4 hjn hE
      simp only
      go_wp2_with fail
      exact bodyPost_ret (v := .bool true) (by simp [results, Try.results8, go_sem]) rfl ⟨rfl, HB4.out⟩
    · rw [hjn] at hn4 hw4 hs4 ⊢
      simp only at hn4 hw4 hs4 ⊢
      have hw4 := hw4 trivial
      obtain ⟨g, e1⟩ : ∃ g, g4 = some ⟨g, 0, none⟩ := by
        obtain ⟨g, c', cur, fz, e1, _⟩ := hw4
        injection e1 with e1 _ _
        exact ⟨g, e1⟩
      subst e1
      obtain ⟨T, hT⟩ : ∃ T, hd8 ++ secsB (scL l) = T := ⟨_, rfl⟩
      have HT8 : Hid (T.take 8 = hd8) := Lib.hid (by rw [← hT]; rfl)
      have hTl : T.length = 8 + (secsB (scL l)).length := by rw [← hT, List.length_append]; rfl
      have HBY := Lib.hid (secs_byte hm (scl_byte HR.out))
      have HSP : Hid (split7 T = (scL l, 0)) := Lib.hid (by rw [← hT]; exact split_join hm hlen)
      have HDF : Hid (∀ p ∈ scL l, p.2.length ≤ 70000) := Lib.hid fun p hp => by
        obtain ⟨q, hq, rfl⟩ := List.mem_map.1 hp
        exact HF2.out q hq
      have HSUM : Hid (8 + szs (scL l) = n4) := Lib.hid (by rw [hn4, hT, hTl, szs_eq _ HDF.out])
      rw [hT] at hn4 hw4 hs4 HBY
      have h8 : 8 ≤ n4 := by omega
      have h6 : n4 ≤ 65536 := by omega
      have HN4 := Lib.hid hn4
      have HWR := Lib.hid hw4
      have t0 : decide ((n4 : Int) < 8) = false := decide_eq_false (by omega)
      have t0' : decide (n4 < 8) = false := decide_eq_false (by omega)
      clear hn4 hw4 hs4 hm hlen hjn hT hTl
      go_wp2_with fail
      go_loopw [10, 11] (fun s i' wr => ∃ (i m : Nat), s = .int .i64 (m : Int) ∧ i' = .int .i64 (i : Int) ∧ i ≤ n ∧ m = 8 + szs ((scL l).take i) ∧ m ≤ 8 + 70004 * i ∧ wr = w4) (fun _ i' _ => n - (intOf i').toNat)
      case atStart => exact ⟨0, 8, rfl, by go_num, by omega, rfl, by omega, rfl⟩
      case round =>
        obtain ⟨i, m, rfl, rfl, hi, hF, hmm, rfl⟩ := hrel
        have HF := Lib.hid hF
        clear hF
        by_cases hlt : i < n
        · obtain ⟨y, hy⟩ : ∃ y, l[i]? = some y := ⟨_, List.getElem?_eq_getElem (by rw [HN.out]; exact hlt)⟩
          obtain ⟨g2, off, rfl, hC, hO⟩ := (HR.out.keep HB4.out).at_ hy
          have HZ := Lib.hid (szs_take (scL_get hy))
          obtain ⟨P, cd, hp, _⟩ := id hO.1
          have hdl := HF2.out _ (List.mem_of_getElem? hy)
          obtain ⟨⟨x, B⟩, ov⟩ := y
          obtain ⟨q1, q2⟩ := hC
          simp only at q1 q2 hp hdl HZ
          obtain ⟨k, hk⟩ : ∃ k, B.length = k := ⟨_, rfl⟩
          rw [hk] at hp hdl HZ
          subst hp
          clear hy hO hk q1
          have i1 : (0 : Int) ≤ (i : Int) := by omega
          have i2 : (i : Int) < (n : Int) := by omega
          have hw1 : IntKind.i64.wrap ((i : Int) + 1) = (i : Int) + 1 := IntWalk.i64_in _ (by omega)
          have hw2 : IntKind.i64.wrap ((m : Int) + 2) = (m : Int) + 2 := IntWalk.i64_in _ (by omega)
          have hw3 : IntKind.i64.wrap ((m : Int) + 2 + (k : Int)) = (m : Int) + 2 + (k : Int) := IntWalk.i64_in _ (by omega)
          have hw4 : IntKind.i64.wrap ((m : Int) + 2 + (k : Int) + 1) = (m : Int) + 2 + (k : Int) + 1 := IntWalk.i64_in _ (by omega)
          have hw5 : IntKind.i64.wrap ((m : Int) + 2 + (k : Int) + 1 + 1) = (m : Int) + 2 + (k : Int) + 1 + 1 := IntWalk.i64_in _ (by omega)
          rcases (show k < 128 ∨ (128 ≤ k ∧ k < 16384) ∨ 16384 ≤ k by omega) with h | ⟨h, h'⟩ | h
          · have s1 : decide ((128 : Int) ≤ (k : Int)) = false := decide_eq_false (by omega)
            have s1' : decide (128 ≤ k) = false := decide_eq_false (by omega)
            have s2 : decide ((16384 : Int) ≤ (k : Int)) = false := decide_eq_false (by omega)
            have s2' : decide (16384 ≤ k) = false := decide_eq_false (by omega)
            have HV : Hid (m + 2 + k = 8 + szs ((scL l).take (i + 1))) := Lib.hid (by rw [HZ.out, HF.out]; unfold sz1; rw [if_neg (by omega), if_neg (by omega)]; omega)
            go_wp2_with fail
            go_roundw
            case rel => exact ⟨i + 1, m + 2 + k, by go_num, by go_num, hlt, HV.out, by omega, by first | rfl | trivial⟩
            case measure => simp [intOf]; omega
          · have s1 : decide ((128 : Int) ≤ (k : Int)) = true := decide_eq_true (by omega)
            have s1' : decide (128 ≤ k) = true := decide_eq_true (by omega)
            have s2 : decide ((16384 : Int) ≤ (k : Int)) = false := decide_eq_false (by omega)
            have s2' : decide (16384 ≤ k) = false := decide_eq_false (by omega)
            have HV : Hid (m + 2 + k + 1 = 8 + szs ((scL l).take (i + 1))) := Lib.hid (by rw [HZ.out, HF.out]; unfold sz1; rw [if_pos (by omega), if_neg (by omega)]; omega)
            go_wp2_with fail
            go_roundw
            case rel => exact ⟨i + 1, m + 2 + k + 1, by go_num, by go_num, hlt, HV.out, by omega, by first | rfl | trivial⟩
            case measure => simp [intOf]; omega
          · have s1 : decide ((128 : Int) ≤ (k : Int)) = true := decide_eq_true (by omega)
            have s1' : decide (128 ≤ k) = true := decide_eq_true (by omega)
            have s2 : decide ((16384 : Int) ≤ (k : Int)) = true := decide_eq_true (by omega)
            have s2' : decide (16384 ≤ k) = true := decide_eq_true (by omega)
            have HV : Hid (m + 2 + k + 1 + 1 = 8 + szs ((scL l).take (i + 1))) := Lib.hid (by rw [HZ.out, HF.out]; unfold sz1; rw [if_pos (by omega), if_pos (by omega)]; omega)
            go_wp2_with fail
            go_roundw
            case rel => exact ⟨i + 1, m + 2 + k + 1 + 1, by go_num, by go_num, hlt, HV.out, by omega, by first | rfl | trivial⟩
            case measure => simp [intOf]; omega
        · have hin : i = n := by omega
          subst hin
          have hmn : m = n4 := by
            have := HF.out
            rw [List.take_of_length_le (by rw [scL_len, HN.out]; exact Nat.le_refl _), HSUM.out] at this
            exact this
          subst hmn
          have hjT : j < T.length := by rw [← HN4.out]; omega
          obtain ⟨p1, p2, p3⟩ := HWR.out.cell hjT
          have hwas : T.getD j 0 = hd8.getD j 0 := by
            rw [← HT8.out, List.getD_eq_getElem?_getD, List.getD_eq_getElem?_getD, List.getElem?_take, if_pos hj8]
          obtain ⟨was, hws⟩ : ∃ was, T.getD j 0 = was := ⟨_, rfl⟩
          rw [hws] at p1
          have p3 := Nat.le_trans HB3.out.size p3
          have HSET := Lib.hid (HWR.out.set (y := ch) HN4.out hjT)
          have HB5 := Lib.hid (HB4.out.setCell (p := ⟨g, j, none⟩) p3 (.int .u8 ch))
          have HBY5 : Hid (∀ x ∈ T.set j ch, 0 ≤ x ∧ x < 256) := Lib.hid fun x hx => by
            rcases List.mem_or_eq_of_mem_set hx with h | h
            · exact HBY.out x h
            · rw [h]; exact HCH.out
          have j1 : (j : Int) < (m : Int) := by omega
          have j0 : (0 : Int) ≤ (j : Int) := by omega
          by_cases heq : ch = was
          · have HQ : Hid (split7 (T.set j ch) = (scL l, 0)) := Lib.hid (by rw [heq, ← hws, set_same hjT]; exact HSP.out)
            have t4 : (ch == was) = true := by simpa using heq
            have HLL := Lib.hid (scL_len l)
            clear heq hwas hws p3 hjT
            go_wp2_with fail
            refine (psplit_at HSET.out HBY5.out HQ.out (n := i) (by rw [HLL.out]; exact HN.out)).mono ?_
            rintro en w6 ⟨A6, c6, l6, rfl, _, _, _, hb6⟩
            have HB6 := Lib.hid (HB5.out.trans (hb6.mono HB5.out.size))
            clear hb6
            go_wp2_with fail
            exact bodyPost_ret (v := .bool true) (by simp [results, Try.results8, go_sem]) rfl ⟨rfl, HB6.out⟩
          · have HQ : Hid (split7 (T.set j ch) = ([], 3)) := Lib.hid (head_set hj8 HT8.out (by rw [← HN4.out]; omega) (by rw [← HN4.out]; omega) (by rw [← hwas, hws]; exact heq))
            have t4 : (ch == was) = false := by simpa using heq
            clear heq hwas hws p3 hjT
            go_wp2_with fail
            refine (psplit_at HSET.out HBY5.out HQ.out (n := 0) rfl).mono ?_
            rintro en w6 ⟨A6, c6, l6, rfl, _, _, _, hb6⟩
            have HB6 := Lib.hid (HB5.out.trans (hb6.mono HB5.out.size))
            clear hb6
            go_wp2_with fail
            exact bodyPost_ret (v := .bool true) (by simp [results, Try.results8, go_sem]) rfl ⟨rfl, HB6.out⟩
theorem heads_any {v : Value} {l : List (Sct × Value)} (d ch : Int) (hch : (Lit.int .u8 ch).wf = true) {w : World} (h : ScRow w v l) : Calls Try.prog 8 #[v, .int .i64 d, .int .u8 ch] w fun e w' => e = .returned (.bool true) ∧ Below w.heap.size w w' := by
  obtain ⟨⟨A, c, rfl, _⟩, _⟩ := id h
  have hc : 0 ≤ ch ∧ ch < 256 := by
    have := bounds_u8 hch
    omega
  exact heads_law d ch hc rfl h
end Go.Proofs.Ytkdnhhhgggmapaa.Sec
