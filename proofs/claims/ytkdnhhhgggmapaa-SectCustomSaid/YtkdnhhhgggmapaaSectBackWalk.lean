/- SectBack walked: what is joined is split as it was; a byte less is too short. -/
import Derived.Test.YtkdnhhhgggmapaaSecPH
namespace Go.Proofs.Ytkdnhhhgggmapaa.Sec
open Go.RowKit Utf
set_option maxRecDepth 100000
set_option maxHeartbeats 1000000
set_option linter.unusedVariables false
theorem join_cases (L : List Sct) : (∃ E : Int, join7 L = ([], E) ∧ (E = 1 ∨ E = 4)) ∨ (mayb 0 L = true ∧ 8 + (secsB L).length ≤ 65536 ∧ join7 L = (hd8 ++ secsB L, 0)) := by
  cases hm : mayb 0 L with
  | false => exact .inl ⟨1, join_bad hm, .inl rfl⟩
  | true =>
    by_cases h : 65536 < 8 + (secsB L).length
    · exact .inl ⟨4, join_big hm h, .inr rfl⟩
    · exact .inr ⟨rfl, by omega, join_ok hm (by omega)⟩
theorem few_len {l : List (Sct × Value)} {n : Nat} (h : FewS l) (hn : l.length = n) : n ≤ 30 ∧ ∀ p ∈ l, p.1.2.length ≤ 70000 := ⟨by have := h.1; omega, h.2⟩
theorem row_ok {w : World} {v : Value} {l : List (Sct × Value)} (h : ScRow w v l) : ∀ p ∈ l, ScOk w p := h.2
theorem ours_row {w w' : World} {B : Nat} {v u : Value} {l : List (Sct × Value)} {e : TypeId} (h : ScRow w v l) (ho : OwnS e w' B u l) (hb : Below w.heap.size w w') : ScRow w' u l := OwnS.row ho fun p hp => (h.2 p hp).keep hb
theorem secs_byte {L : List Sct} (hm : mayb 0 L = true) (hb : ∀ p ∈ L, ∀ x ∈ p.2, 0 ≤ x ∧ x < 256) : ∀ x ∈ hd8 ++ secsB L, 0 ≤ x ∧ x < 256 := by
  intro x hx
  rcases List.mem_append.1 hx with hx | hx
  · exact hd8_byte x hx
  · obtain ⟨p, hp, hx⟩ := List.mem_flatMap.1 hx
    have h1 := mayb_mem L 0 hm p hp
    rcases List.mem_cons.1 hx with rfl | hx
    · omega
    · rcases List.mem_append.1 hx with hx | hx
      · have := Leb.uB_byte _ x hx; omega
      · exact hb p hp x hx
theorem scl_byte {w : World} {v : Value} {l : List (Sct × Value)} (h : ScRow w v l) : ∀ p ∈ scL l, ∀ x ∈ p.2, 0 ≤ x ∧ x < 256 := fun p hp => by
  obtain ⟨q, hq, rfl⟩ := List.mem_map.1 hp
  exact (h.2 q hq).2
theorem back_law {l : List (Sct × Value)} {A : Option Addr} {n c : Nat} {w : World} (hn : l.length = n) (hr : ScRow w (.slice A n c) l) :
    Calls Try.prog 4 #[.slice A n c] w fun e w' => e = .returned (.bool true) ∧ Below w.heap.size w w' := by
  have HN := Lib.hid hn
  have HR := Lib.hid hr
  clear hn hr
  go_enter Try.func4, Try.ntmps4
  go_wp2_with fail
  refine (awake_any _).mono ?_
  rintro en w1 ⟨rfl, hb1⟩
  have HB1 := Lib.hid hb1
  clear hb1
  go_wp2_with fail
  refine (fews_any HN.out (HR.out.keep HB1.out)).mono ?_
  rintro en w2 ⟨⟨b, rfl, hb⟩, rfl⟩
  cases b with
  | false =>
    clear hb
    go_wp2_with fail
    exact bodyPost_ret (v := .bool true) (by simp [results, Try.results4, go_sem]) rfl ⟨rfl, HB1.out⟩
  | true =>
    obtain ⟨hf1, hf2⟩ := few_len (hb.1 rfl) HN.out
    have HF2 := Lib.hid hf2
    clear hb hf2
    go_wp2_with fail
    refine (ours_any HN.out (HR.out.keep HB1.out) (by omega)).mono ?_
    rintro en w3 ⟨⟨P3, c3, rfl, ho3⟩, hb3⟩
    have HB3 := Lib.hid (HB1.out.trans (hb3.mono HB1.out.size))
    have HR3 := Lib.hid (ours_row HR.out ho3 HB3.out)
    clear hb3 ho3
    go_wp2_with fail
    refine (pjoin_any HN.out HR3.out (by omega) (fun p hp => by have := HF2.out p hp; omega)).mono ?_
    rintro en w4 ⟨⟨g4, n4, c4, rfl, hn4, hw4, hs4⟩, hb4⟩
    have HB4 := Lib.hid (HB3.out.trans (hb4.mono HB3.out.size))
    clear hb4
    rcases join_cases (scL l) with ⟨E, hj, hE⟩ | ⟨hm, hlen, hj⟩
    · rw [hj] at hn4 ⊢
      have h0 : n4 = 0 := hn4
      subst h0
      clear hn4 hw4 hs4 hj
      simp only
      rcases hE with rfl | rfl
      all_goals (
        go_wp2_with fail
        exact bodyPost_ret (v := .bool true) (by simp [results, Try.results4, go_sem]) rfl ⟨rfl, HB4.out⟩)
    · rw [hj] at hn4 hw4 hs4 ⊢
      simp only at hn4 hw4 hs4 ⊢
      obtain ⟨g, c', cur, fz, e1, hc1, hc2, _⟩ := hw4 trivial
      injection e1 with e1 e2 e3
      subst e1 e3
      have hq7 : 8 ≤ n4 := by rw [hn4, List.length_append]; show 8 ≤ 8 + _; omega
      obtain ⟨q, rfl⟩ : ∃ q, n4 = q + 1 := ⟨n4 - 1, by omega⟩
      have HBY := Lib.hid (secs_byte hm (scl_byte HR.out))
      have HS4 := Lib.hid hs4
      have HN4 := Lib.hid hn4
      have HSP : Hid (split7 (hd8 ++ secsB (scL l)) = (scL l, 0)) := Lib.hid (split_join hm hlen)
      have HCUT : Hid (split7 ((hd8 ++ secsB (scL l)).take q) = ([], 2)) := Lib.hid (by
        rw [← split_cut hm hlen, List.dropLast_eq_take, ← hn4]
        rfl)
      have hqc : q + 1 ≤ c4 := by omega
      have HTK : Hid (Sl w4 (.slice (some ⟨g, 0, none⟩) q c4) ((hd8 ++ secsB (scL l)).take q)) := Lib.hid (sl_take hs4 (by omega))
      have HTB : Hid (∀ x ∈ (hd8 ++ secsB (scL l)).take q, 0 ≤ x ∧ x < 256) := Lib.hid (fun x hx => HBY.out x (List.mem_of_mem_take hx))
      clear hn4 hw4 hs4 hm hlen hj e2 hc1
      generalize hd8 ++ secsB (scL l) = T at HBY HS4 HN4 HSP HCUT HTK HTB
      have hq0 : (0 : Int) < (q : Int) := by omega
      have hw1 : IntKind.i64.wrap ((q : Int) + 1 - 1) = (q : Int) := by rw [Int.add_sub_cancel]; exact IntWalk.i64_in _ (by omega)
      have hw2 : IntKind.i64.wrap (q : Int) = (q : Int) := IntWalk.i64_in _ (by omega)
      have hqc2 : (q : Int) ≤ (c4 : Int) := by omega
      have hqc3 : q ≤ c4 := by omega
      have HL := Lib.hid (scL_len l)
      go_wp2_with fail
      refine (psplit_at HS4.out HBY.out HSP.out (n := n) (by rw [HL.out]; exact HN.out)).mono ?_
      rintro en w5 ⟨A5, c5, l5, rfl, hr5, hl5, hn5, hb5⟩
      have HB5 := Lib.hid (HB4.out.trans (hb5.mono HB4.out.size))
      have HT5 : Hid (Sl w5 (.slice (some ⟨g, 0, none⟩) q c4) (T.take q)) := Lib.hid (HTK.out.keep hb5)
      have HR5 := Lib.hid hr5
      have HL5 := Lib.hid hl5
      have HN5 := Lib.hid hn5
      clear hr5 hl5 hn5 hb5
      go_wp2_with fail
      refine (theirs_any HN5.out HR5.out (by omega)).mono ?_
      rintro en w6 ⟨⟨P6, c6, rfl, ho6⟩, hb6⟩
      have HB6 := Lib.hid (HB5.out.trans (hb6.mono HB5.out.size))
      have HR6 := Lib.hid (ours_row HR5.out ho6 hb6)
      have HT6 := Lib.hid (HT5.out.keep hb6)
      clear hb6 ho6
      go_wp2_with fail
      refine (rsames_yes (by rw [HN5.out]; omega) HR6.out (HR.out.keep HB6.out) HL5.out).mono ?_
      rintro en w7 ⟨rfl, hb7⟩
      have HB7 := Lib.hid (HB6.out.trans (hb7.mono HB6.out.size))
      have HT7 := Lib.hid (HT6.out.keep hb7)
      clear hb7
      go_wp2_with fail
      refine (psplit_at HT7.out HTB.out HCUT.out (n := 0) rfl).mono ?_
      rintro en w8 ⟨A8, c8, l8, rfl, _, _, _, hb8⟩
      have HB8 := Lib.hid (HB7.out.trans (hb8.mono HB7.out.size))
      clear hb8
      go_wp2_with fail
      exact bodyPost_ret (v := .bool true) (by simp [results, Try.results4, go_sem]) rfl ⟨rfl, HB8.out⟩
theorem back_any {v : Value} {l : List (Sct × Value)} {w : World} (h : ScRow w v l) : Calls Try.prog 4 #[v] w fun e w' => e = .returned (.bool true) ∧ Below w.heap.size w w' := by
  obtain ⟨⟨A, c, rfl, _⟩, _⟩ := id h
  exact back_law rfl h
end Go.Proofs.Ytkdnhhhgggmapaa.Sec
