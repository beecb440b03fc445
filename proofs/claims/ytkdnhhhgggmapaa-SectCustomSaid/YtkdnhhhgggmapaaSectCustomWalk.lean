/- SectCustom walked: sections of a name say nothing: laid in anywhere, the others are split as they were. -/
import Derived.Test.YtkdnhhhgggmapaaSecStab
namespace Go.Proofs.Ytkdnhhhgggmapaa.Sec
open Go.RowKit Utf
set_option maxRecDepth 100000
set_option maxHeartbeats 16000000
set_option linter.unusedVariables false
theorem custom_law {A1 A4 : Option Addr} {n c n4 c4 : Nat} {D : List Int} {l : List (Sct × Value)} {s : ByteArray} {w : World} (d : Int)
    (hn1 : l.length = n) (hr : ScRow w (.slice A1 n c) l) (hn4 : D.length = n4) (hs4 : Sl w (.slice A4 n4 c4) D) (hD : ∀ x ∈ D, 0 ≤ x ∧ x < 256) (hm4 : n4 ≤ 9223372036854775807) (hms : s.size ≤ 9223372036854775807) :
    Calls Try.prog 6 #[.slice A1 n c, .int .i64 d, .string s, .slice A4 n4 c4] w fun e w' => e = .returned (.bool true) ∧ Below w.heap.size w w' := by
  have HN := Lib.hid hn1
  have HR := Lib.hid hr
  have HN4 := Lib.hid hn4
  have HS4 := Lib.hid hs4
  have HDB := Lib.hid hD
  clear hn1 hr hn4 hs4 hD
  obtain ⟨b3, hb3⟩ : ∃ x, decide ((200 : Int) < (s.size : Int)) = x := ⟨_, rfl⟩
  obtain ⟨b4, hb4⟩ : ∃ x, decide ((200 : Int) < (n4 : Int)) = x := ⟨_, rfl⟩
  have hb3' : decide (200 < s.size) = b3 := by rw [← hb3]; simp only [decide_eq_decide]; omega
  have hb4' : decide (200 < n4) = b4 := by rw [← hb4]; simp only [decide_eq_decide]; omega
  by_cases hout : b3 = true ∨ b4 = true
  · go_enter Try.func6, Try.ntmps6
    go_wp2_with fail
    refine (awake_any _).mono ?_
    rintro en w1 ⟨rfl, hb⟩
    have HB1 := Lib.hid hb
    clear hb
    go_wp2_with fail
    refine (fews_any HN.out (HR.out.keep HB1.out)).mono ?_
    rintro en w2 ⟨⟨fw, rfl, hfw⟩, rfl⟩
    clear hfw
    have key : (fw = false) ∨ (fw = true ∧ b3 = true) ∨ (fw = true ∧ b3 = false ∧ b4 = true) := by cases fw <;> cases b3 <;> cases b4 <;> simp_all
    clear hout
    rcases key with rfl | ⟨rfl, rfl⟩ | ⟨rfl, rfl, rfl⟩
    · clear hb3 hb4 hb3' hb4'
      go_wp2_with fail
      exact bodyPost_ret (v := .bool true) (by simp [results, Try.results6, go_sem]) rfl ⟨rfl, HB1.out⟩
    · clear hb4 hb4'
      go_wp2_with fail
      exact bodyPost_ret (v := .bool true) (by simp [results, Try.results6, go_sem]) rfl ⟨rfl, HB1.out⟩
    · go_wp2_with fail
      exact bodyPost_ret (v := .bool true) (by simp [results, Try.results6, go_sem]) rfl ⟨rfl, HB1.out⟩
  · have hb3f : b3 = false := by cases b3 <;> simp_all
    have hb4f : b4 = false := by cases b4 <;> simp_all
    subst hb3f hb4f
    clear hout
    have hl3 : s.size ≤ 200 := by have := of_decide_eq_false hb3'; omega
    have hl4 : n4 ≤ 200 := by have := of_decide_eq_false hb4'; omega
    obtain ⟨CX, hCX⟩ : ∃ X, cuX (bl s) D = X := ⟨_, rfl⟩
    obtain ⟨CE, hCE⟩ : ∃ X, fltE (bl s) = X := ⟨_, rfl⟩
    have HCX := Lib.hid hCX
    have HCE := Lib.hid hCE
    clear hCX hCE
    go_enter Try.func6, Try.ntmps6
    go_wp2_with fail
    refine (awake_any _).mono ?_
    rintro en w1 ⟨rfl, hb⟩
    have HB1 := Lib.hid hb
    clear hb
    go_wp2_with fail
    refine (fews_any HN.out (HR.out.keep HB1.out)).mono ?_
    rintro en w2 ⟨⟨fw, rfl, hfw⟩, rfl⟩
    cases fw with
    | false =>
      clear hfw
      go_wp2_with fail
      exact bodyPost_ret (v := .bool true) (by simp [results, Try.results6, go_sem]) rfl ⟨rfl, HB1.out⟩
    | true =>
      obtain ⟨hf1, hf2⟩ := few_len (hfw.1 rfl) HN.out
      have HF2 := Lib.hid hf2
      clear hfw hf2
      go_wp2_with fail
      refine (pcustom_any (by omega) HN4.out (by omega) (HS4.out.keep HB1.out)).mono ?_
      rintro en w3 ⟨⟨P12, k12, c12, rfl, hs12⟩, hb⟩
      rw [HCX.out] at hs12
      rw [HCE.out]
      have HB3 := Lib.hid (HB1.out.trans (hb.mono HB1.out.size))
      have HA := Lib.hid ((Below.refl w3.heap.size w3).alloc (Nat.le_refl _) (.cells #[.int .i64 0, .slice P12 k12 c12] 40))
      have HB4 := Lib.hid (HB3.out.trans (HA.out.mono HB3.out.size))
      have HS12 := Lib.hid (hs12.keep HA.out)
      have HH1 := Lib.hid (heap_new w3 (.cells #[.int .i64 0, .slice P12 k12 c12] 40))
      have HZ1 := Lib.hid (size_new1 w3 (.cells #[.int .i64 0, .slice P12 k12 c12] 40))
      clear hs12 hb HA
      go_wp2_with fail
      refine (ours_any HN.out (HR.out.keep HB4.out) (by omega)).mono ?_
      rintro en w5 ⟨⟨P6, c6, rfl, ho6⟩, hb⟩
      have HB5 := Lib.hid (HB4.out.trans (hb.mono HB4.out.size))
      have HR6 := Lib.hid (ours_row HR.out ho6 HB5.out)
      have HS12 := Lib.hid (HS12.out.keep hb)
      have HL1 : Hid (w3.heap.size < w5.heap.size) := Lib.hid (by have := hb.size; rw [HZ1.out] at this; omega)
      have HH1 : Hid (w5.heap[w3.heap.size]? = some (.cells #[.int .i64 0, .slice P12 k12 c12] 40)) := Lib.hid ((hb.block _ (by rw [HZ1.out]; omega)).trans HH1.out)
      clear ho6 hb HZ1
      go_wp2_with fail
      refine (pjoin_any HN.out HR6.out (by omega) (fun p hp => by have := HF2.out p hp; omega)).mono ?_
      rintro en w6 ⟨⟨g7, n7, c7, rfl, hn7, _, _⟩, hb⟩
      have HB6 := Lib.hid (HB5.out.trans (hb.mono HB5.out.size))
      have HS12 := Lib.hid (HS12.out.keep hb)
      have hL2 : w3.heap.size < w6.heap.size := by have h1 := hb.size; have h2 := HL1.out; omega
      have HH1 : Hid (w6.heap[w3.heap.size]? = some (.cells #[.int .i64 0, .slice P12 k12 c12] 40)) := Lib.hid ((hb.block _ HL1.out).trans HH1.out)
      obtain ⟨b10, hb10⟩ : ∃ b, w3.heap.size = b := ⟨_, rfl⟩
      rw [hb10] at HH1 hL2 ⊢
      clear hb10
      have HL2 := Lib.hid hL2
      clear hb HL1 hL2
      obtain ⟨⟨J, F⟩, hj⟩ : ∃ R, join7 (scL l) = R := ⟨_, rfl⟩
      rw [hj] at hn7 ⊢
      simp only at hn7 ⊢
      have HJ := Lib.hid hj
      clear hj
      by_cases hCE : CE = 0
      · subst hCE
        by_cases hF : F = 0
        · subst hF
          by_cases h60 : 60000 < n7
          · have t1 : decide ((60000 : Int) < (n7 : Int)) = true := decide_eq_true (by omega)
            have t1' : decide (60000 < n7) = true := decide_eq_true h60
            clear hn7 h60
            go_wp2_with fail
            exact bodyPost_ret (v := .bool true) (by simp [results, Try.results6, go_sem]) rfl ⟨rfl, HB6.out⟩
          · have t1 : decide ((60000 : Int) < (n7 : Int)) = false := decide_eq_false (by omega)
            have t1' : decide (60000 < n7) = false := decide_eq_false h60
            have HN7 : Hid (n7 = J.length ∧ n7 ≤ 60000) := Lib.hid ⟨hn7, by omega⟩
            clear hn7 h60
            obtain ⟨k, hk, hkn⟩ : ∃ k : Nat, (d % 65536) % ((n : Int) + 1) = (k : Int) ∧ k ≤ n := ⟨((d % 65536) % ((n : Int) + 1)).toNat, by
              have := Int.emod_nonneg (d % 65536) (show ((n : Int) + 1) ≠ 0 by omega)
              omega, by
              have := Int.emod_nonneg (d % 65536) (show ((n : Int) + 1) ≠ 0 by omega)
              have := Int.emod_lt_of_pos (d % 65536) (show 0 < ((n : Int) + 1) by omega)
              omega⟩
            have HK := Lib.hid hk
            clear hk
            obtain ⟨a, ha⟩ : ∃ a, d % 65536 = a := ⟨_, rfl⟩
            have hand : bits .and .i64 d 65535 = a := by rw [i64_and16]; exact ha
            have ha0 : 0 ≤ a := by omega
            have ha1 : a < 65536 := by omega
            rw [ha] at HK
            clear ha
            have hwn : IntKind.i64.wrap ((n : Int) + 1) = (n : Int) + 1 := IntWalk.i64_in _ (by omega)
            go_wp2_with fail
            rw [HK.out]
            obtain ⟨T1, d1, T2, d2, hr1, ht1, hr2, ht2⟩ := rcut HR.out HN.out hkn
            obtain ⟨nk, hnk⟩ : ∃ nk, n - k = nk := ⟨_, rfl⟩
            rw [hnk] at hr2 ht2
            have HT1 := Lib.hid ht1
            have HT2 := Lib.hid ht2
            clear ht1 ht2
            have hL2 : b10 < w6.heap.size := HL2.out
            have z0 : w6.cell? ⟨b10, 0, none⟩ = some (.int .i64 0) := (cells_at HH1.out 0).1
            have z1 : w6.cell? ⟨b10, 1, none⟩ = some (.slice P12 k12 c12) := (cells_at HH1.out 1).1
            have HX0 : Hid (Below w.heap.size w w6.drew) := Lib.hid (HB6.out.trans ⟨rfl, rfl, rfl, Nat.le_refl _, fun _ _ => rfl⟩)
            have HY0 : Hid (Below w6.heap.size w6 w6.drew) := Lib.hid ⟨rfl, rfl, rfl, Nat.le_refl _, fun _ _ => rfl⟩
            have HLK : Hid ((l.take k).length = k) := Lib.hid (by rw [List.length_take, HN.out]; omega)
            have HLD : Hid ((l.drop k).length = nk) := Lib.hid (by rw [List.length_drop, HN.out, hnk])
            have hk9 : k ≤ 100000 := by omega
            have hk10 : k + 1 ≤ 100000 := by omega
            have hn10 : n + 1 ≤ 100000 := by omega
            have HCXB := Lib.hid (by rw [← HCX.out]; exact cu_byte (s := s) HDB.out : ∀ y ∈ CX, 0 ≤ y ∧ y < 256)
            have hk8 : k ≤ 80000 := by omega
            have hn8 : nk ≤ 80000 := by omega
            have HNK : Hid (k + 1 + nk = n + 1) := Lib.hid (by omega)
            clear hnk
            have HKN := Lib.hid hkn
            go_cut [15] from 66 to 79 (fun v wx => ∃ g c', v = .slice g (n + 1) c' ∧ EO wx w6.heap.size (.slice g (n + 1) c') (l.take k ++ [((0, CX), .slice P12 k12 c12)] ++ l.drop k) ∧ Below w6.heap.size w6 wx)
            case first =>
              go_region_law (first | (have hq := HO78; clear hq; refine step_rowsS _ rfl (.tmp 74) (.tmp 78) rfl w6.heap.size _ (l.take k ++ [((0, CX), .slice P12 k12 c12)]) (l.drop k) P78 nk c78 (n + 1) (by rfl) ?_ (by rfl) HLD.out ?_ ?_ hn10 ?_ ?_; (focus (exact HO78.out)); (focus (exact HR78.out)); (focus (rw [List.length_append, HLK.out, List.length_singleton]; exact HNK.out)); (focus (exact size_of0 HY78.out)); intro g79 c79 w79 ho79 hx79 _; have HY79 : Hid (Below w6.heap.size w6 w79) := Lib.hid (Below.trans HY78.out hx79); have HO79 := Lib.hid ho79; clear ho79 hx79) | (have hq := HX74; clear hq; go_simp; go_at_call 14; refine (ours_any (l := l.drop k) (A := T2) (n := nk) (c := d2) HLD.out ?_ hn8).mono ?_; (focus exact HT2.out.keep HX74.out); rintro en w78 ⟨⟨P78, c78, rfl, ho78⟩, hb78⟩; have HX78 : Hid (Below w.heap.size w w78) := Lib.hid (below_mono0 HX74.out hb78); have HY78 : Hid (Below w6.heap.size w6 w78) := Lib.hid (below_mono0 HY74.out hb78); have HR78 := Lib.hid (OwnS.row ho78 (fun p hp => (HT2.out.2 p hp).keep HX78.out)); have HO78 := Lib.hid (HO74.out.keep hb78); clear ho78 hb78) | (have hq := HS71; clear hq; refine step_rowsS _ rfl (.tmp 71) (.tmp 73) rfl w6.heap.size _ (l.take k) [((0, CX), .slice P12 k12 c12)] _ 1 1 (k + 1) (by rfl) ?_ (by rfl) rfl ?_ (by have := HLK.out; omega) hk10 ?_ ?_; (focus (exact HO71.out.keep (by repeat (first | with_reducible exact Below.refl _ _ | with_reducible refine below_drew ?_ | with_reducible refine below_alloc0 ?_)))); (focus (refine one_rowS ?_ (HS12.out.keep (below_mono0 HY71.out (by repeat (first | with_reducible exact Below.refl _ _ | with_reducible refine below_drew ?_ | with_reducible refine below_alloc0 ?_)))) HCXB.out; exact (by repeat (first | exact heap_newI (by with_reducible rfl) | exact heap_newI (by rw [size_new1]) | refine (heap_oldI (by have e1 := HB70.out.size; first | omega | (rw [drew_size, size_new1] at e1; omega) | (rw [size_new1]; omega) | (rw [drew_size, size_new1] at e1; rw [size_new1]; omega) | (rw [drew_size, size_new1] at e1; rw [size_new1, size_new1]; omega) | (rw [drew_size, size_new1, size_new1] at e1; omega) | (rw [drew_size, size_new1, size_new1] at e1; rw [size_new1]; omega) | (rw [drew_size, size_new1, size_new1] at e1; rw [size_new1, size_new1]; omega) | (rw [size_new1, size_new1]; omega) | (rw [drew_size, size_new1]; omega) | (rw [drew_size, size_new1, size_new1]; omega))).trans ?_ | refine (HS71.out.block _ (by have e1 := HB70.out.size; first | omega | (rw [drew_size, size_new1] at e1; omega) | (rw [size_new1]; omega) | (rw [drew_size, size_new1] at e1; rw [size_new1]; omega) | (rw [drew_size, size_new1] at e1; rw [size_new1, size_new1]; omega) | (rw [drew_size, size_new1, size_new1] at e1; omega) | (rw [drew_size, size_new1, size_new1] at e1; rw [size_new1]; omega) | (rw [drew_size, size_new1, size_new1] at e1; rw [size_new1, size_new1]; omega) | (rw [size_new1, size_new1]; omega) | (rw [drew_size, size_new1]; omega) | (rw [drew_size, size_new1, size_new1]; omega))).trans ?_ | refine (HB70.out.block _ (by have e1 := HB70.out.size; first | omega | (rw [drew_size, size_new1] at e1; omega) | (rw [size_new1]; omega) | (rw [drew_size, size_new1] at e1; rw [size_new1]; omega) | (rw [drew_size, size_new1] at e1; rw [size_new1, size_new1]; omega) | (rw [drew_size, size_new1, size_new1] at e1; omega) | (rw [drew_size, size_new1, size_new1] at e1; rw [size_new1]; omega) | (rw [drew_size, size_new1, size_new1] at e1; rw [size_new1, size_new1]; omega) | (rw [size_new1, size_new1]; omega) | (rw [drew_size, size_new1]; omega) | (rw [drew_size, size_new1, size_new1]; omega))).trans ?_ | refine (heap_drewI _ _).trans ?_)))); (focus (exact size_of0 (below_mono0 HY71.out (by repeat (first | with_reducible exact Below.refl _ _ | with_reducible refine below_drew ?_ | with_reducible refine below_alloc0 ?_))))); intro g74 c74 w74 ho74 hx74 _; have HY74 : Hid (Below w6.heap.size w6 w74) := Lib.hid (Below.trans (below_mono0 HY71.out (by repeat (first | with_reducible exact Below.refl _ _ | with_reducible refine below_drew ?_ | with_reducible refine below_alloc0 ?_))) hx74); have HX74 : Hid (Below w.heap.size w w74) := Lib.hid (below_mono0 HB6.out HY74.out); have HO74 := Lib.hid ho74; clear ho74 hx74) | (have hq := HR70; clear hq; refine step_rowsS _ rfl (.tmp 66) (.tmp 70) rfl w6.heap.size _ [] (l.take k) P70 k c70 k (by rfl) (.inl ⟨_, rfl, rfl⟩) (by rfl) HLK.out ?_ (by simp) hk9 ?_ ?_; (focus (exact HR70.out.keep (by repeat (first | with_reducible exact Below.refl _ _ | with_reducible refine below_drew ?_ | with_reducible refine below_alloc0 ?_)))); (focus (exact size_of0 (below_mono0 HY70.out (by repeat (first | with_reducible exact Below.refl _ _ | with_reducible refine below_drew ?_ | with_reducible refine below_alloc0 ?_))))); intro g71 c71 w71 ho71 hx71 hs71; have hs71 := hs71 ⟨_, rfl⟩; have HY71 : Hid (Below w6.heap.size w6 w71) := Lib.hid (below_mono0 (below_mono0 HY70.out (by repeat (first | with_reducible exact Below.refl _ _ | with_reducible refine below_drew ?_ | with_reducible refine below_alloc0 ?_))) hs71); have HX71 : Hid (Below w.heap.size w w71) := Lib.hid (below_mono0 HB6.out HY71.out); have hh71 := (HY71.out.block _ hL2).trans HH1.out; have z4 := (cells_at hh71 0).1; have z5 := (cells_at hh71 1).1; have hL71 : b10 < w71.heap.size := (Array.getElem?_eq_some_iff.1 hh71).1; have HO71 := Lib.hid ho71; have HS71 := Lib.hid hs71; clear ho71 hx71 hs71 hh71) | (go_simp; go_at_call 14; refine (ours_any (l := l.take k) (A := T1) (n := k) (c := d1) HLK.out ?_ hk8).mono ?_; (focus exact HT1.out.keep (by repeat (first | with_reducible exact HB6.out | with_reducible refine below_drew ?_ | with_reducible refine below_alloc0 ?_))); rintro en w70 ⟨⟨P70, c70, rfl, ho70⟩, hb70⟩; have HX70 : Hid (Below w.heap.size w w70) := Lib.hid (below_mono0 (by repeat (first | with_reducible exact HB6.out | with_reducible refine below_drew ?_ | with_reducible refine below_alloc0 ?_)) hb70); have HY70 : Hid (Below w6.heap.size w6 w70) := Lib.hid (below_mono0 (by repeat (first | with_reducible exact Below.refl _ _ | with_reducible refine below_drew ?_ | with_reducible refine below_alloc0 ?_)) hb70); have HR70 := Lib.hid (OwnS.row ho70 (fun p hp => (HT1.out.2 p hp).keep HX70.out)); have HB70 := Lib.hid hb70; have hh70 := (HY70.out.block _ hL2).trans HH1.out; have z2 := (cells_at hh70 0).1; have z3 := (cells_at hh70 1).1; have hL70 : b10 < w70.heap.size := (Array.getElem?_eq_some_iff.1 hh70).1; clear ho70 hb70 hh70))
              all_goals (
                go_wp2_with fail
                go_meet
                case rel => exact ⟨_, _, rfl, HO79.out, HY79.out⟩)
            case rest =>
              obtain ⟨g15, c15, rfl, ho15, hy15⟩ := hcut
              have HY15 := Lib.hid hy15
              have HX15 := Lib.hid (below_mono0 HB6.out hy15)
              have HS15 := Lib.hid (HS12.out.keep hy15)
              have HR15 : Hid (ScRow wc (.slice g15 (n + 1) c15) (l.take k ++ [((0, CX), .slice P12 k12 c12)] ++ l.drop k)) := Lib.hid (EO.row ho15 fun p hp => by
                rcases List.mem_append.1 hp with hp | hp
                · rcases List.mem_append.1 hp with hp | hp
                  · exact (HR.out.2 p (List.mem_of_mem_take hp)).keep HX15.out
                  · rw [List.mem_singleton.1 hp]
                    exact ⟨HS15.out, HCXB.out⟩
                · exact (HR.out.2 p (List.mem_of_mem_drop hp)).keep HX15.out)
              obtain ⟨hJm, hJl, hJe⟩ : mayb 0 (scL l) = true ∧ (secsB (scL l)).length ≤ 59992 ∧ True := by
                rcases join_cases (scL l) with ⟨E, h, hE⟩ | ⟨h1, h2, h3⟩
                · rw [HJ.out] at h
                  have := (Prod.mk.inj h).2
                  rcases hE with rfl | rfl <;> cases this
                · rw [HJ.out] at h3
                  have h4 := (Prod.mk.inj h3).1
                  have h5 := HN7.out
                  rw [h4, List.length_append, show hd8.length = 8 from rfl] at h5
                  exact ⟨h1, by omega, trivial⟩
              have hcu := cu_nm (s := bl s) (D := D) HCE.out
              rw [HCX.out, HN4.out] at hcu
              have hsc : scL (l.take k ++ [((0, CX), Value.slice P12 k12 c12)] ++ l.drop k) = (scL l).take k ++ (0, CX) :: (scL l).drop k := by simp [scL]
              have hm2 : mayb 0 ((scL l).take k ++ (0, CX) :: (scL l).drop k) = true := by rw [mayb_ins rfl hcu.1 _ _ 0 (by decide), List.take_append_drop]; exact hJm
              have hl2 : 8 + (secsB ((scL l).take k ++ (0, CX) :: (scL l).drop k)).length ≤ 65536 := by
                rw [secs_ins, List.take_append_drop]
                have := Leb.lenU_ten (v := CX.length) (by omega)
                simp only
                omega
              have HALL : Hid ((l.take k ++ [((0, CX), Value.slice P12 k12 c12)] ++ l.drop k).length = n + 1) := Lib.hid (by rw [List.length_append, List.length_append, HLK.out, HLD.out, List.length_singleton]; exact HNK.out)
              have HALD : Hid (∀ p ∈ l.take k ++ [((0, CX), Value.slice P12 k12 c12)] ++ l.drop k, p.1.2.length ≤ 1000000) := Lib.hid fun p hp => by
                rcases List.mem_append.1 hp with hp | hp
                · rcases List.mem_append.1 hp with hp | hp
                  · have := HF2.out p (List.mem_of_mem_take hp); omega
                  · rw [List.mem_singleton.1 hp]
                    have := hcu.2
                    simp only
                    omega
                · have := HF2.out p (List.mem_of_mem_drop hp); omega
              have HJA : Hid (join7 (scL (l.take k ++ [((0, CX), Value.slice P12 k12 c12)] ++ l.drop k)) = (hd8 ++ secsB ((scL l).take k ++ (0, CX) :: (scL l).drop k), 0)) := Lib.hid (by rw [hsc]; exact join_ok hm2 hl2)
              have HSA : Hid (split7 (hd8 ++ secsB ((scL l).take k ++ (0, CX) :: (scL l).drop k)) = ((scL l).take k ++ (0, CX) :: (scL l).drop k, 0)) := Lib.hid (split_join hm2 hl2)
              have HSB : Hid (∀ x ∈ hd8 ++ secsB ((scL l).take k ++ (0, CX) :: (scL l).drop k), 0 ≤ x ∧ x < 256) := Lib.hid (secs_byte hm2 (by rw [← hsc]; exact scl_byte HR15.out))
              have HSL : Hid (((scL l).take k ++ (0, CX) :: (scL l).drop k).length = n + 1) := Lib.hid (by rw [← hsc, scL_len]; exact HALL.out)
              clear hJm hJl hJe hcu hsc hm2 hl2 ho15 hy15
              have hn31 : n + 1 ≤ 80000 := by omega
              go_wp2_with fail
              refine (pjoin_any HALL.out HR15.out hn31 HALD.out).mono ?_
              rintro en w16 ⟨⟨g17, n17, c17, rfl, hn17, _, hs17⟩, hb⟩
              rw [HJA.out] at hn17 hs17 ⊢
              simp only at hn17 hs17 ⊢
              have HB16 := Lib.hid (below_mono0 HX15.out hb)
              have HY16 := Lib.hid (below_mono0 HY15.out hb)
              have HS17 := Lib.hid hs17
              clear hs17 hn17 hb
              go_wp2_with fail
              refine (psplit_at HS17.out HSB.out HSA.out HSL.out).mono ?_
              rintro en w18 ⟨A5, c5, lm, rfl, hr5, hl5, hn5, hb⟩
              have HB18 := Lib.hid (below_mono0 HB16.out hb)
              have HY18 := Lib.hid (below_mono0 HY16.out hb)
              have HR5 := Lib.hid hr5
              have HL5 := Lib.hid hl5
              have HN5 := Lib.hid hn5
              clear hr5 hl5 hn5 hb
              obtain ⟨M1, e1, _, _, hr3, hm1, _, _⟩ := pcut HR5.out HN5.out (k := k) (by omega)
              obtain ⟨_, _, M2, e2, _, _, hr4, hm2⟩ := pcut HR5.out HN5.out (k := k + 1) (by omega)
              have hnk1 : n + 1 - (k + 1) = nk := by have := HNK.out; omega
              rw [hnk1] at hr4 hm2
              rw [show ((k + 1 : Nat) : Int) = (k : Int) + 1 from by omega] at hr4
              have HM1 := Lib.hid hm1
              have HM2 := Lib.hid hm2
              have HLM1 : Hid ((lm.take k).length = k) := Lib.hid (by rw [List.length_take, HN5.out]; omega)
              have HLM2 : Hid ((lm.drop (k + 1)).length = nk) := Lib.hid (by rw [List.length_drop, HN5.out]; exact hnk1)
              have HKNN : Hid (k + nk = n) := Lib.hid (by have := HNK.out; omega)
              have HLMS : Hid (scL (lm.take k ++ lm.drop (k + 1)) = scL l) := Lib.hid (by
                have ht : scL (lm.take k) = (scL l).take k := by
                  rw [scL_take, HL5.out, List.take_left' (by rw [List.length_take, scL_len, HN.out]; omega)]
                have hd : scL (lm.drop (k + 1)) = (scL l).drop k := by
                  show (lm.drop (k + 1)).map (·.1) = _
                  rw [List.map_drop, show lm.map (·.1) = scL lm from rfl, HL5.out, ← List.drop_drop, List.drop_left' (by rw [List.length_take, scL_len, HN.out]; omega)]
                  rfl
                show (lm.take k ++ lm.drop (k + 1)).map (·.1) = _
                rw [List.map_append, show (lm.take k).map (·.1) = scL (lm.take k) from rfl, show (lm.drop (k + 1)).map (·.1) = scL (lm.drop (k + 1)) from rfl, ht, hd, List.take_append_drop])
              obtain ⟨y, hy⟩ : ∃ y, lm[k]? = some y := ⟨_, List.getElem?_eq_getElem (by rw [HN5.out]; omega)⟩
              have hy1 : y.1 = (0, CX) := by
                have h1 := scL_get hy
                rw [HL5.out, List.getElem?_append_right (by rw [List.length_take, scL_len, HN.out]; omega), List.length_take, scL_len, HN.out, show k - min k n = 0 from by omega] at h1
                exact (Option.some.inj h1).symm
              obtain ⟨gm, om, rfl, hCm, hOm⟩ := HR5.out.at_ hy
              have HGM := Lib.hid (sc_lt hCm)
              have HCM := Lib.hid hCm
              have HOM := Lib.hid hOm
              obtain ⟨Pm, cm, hpm, _⟩ := id hOm.1
              obtain ⟨y1, ov⟩ := y
              simp only at hy1 hpm
              subst hy1
              obtain ⟨km, hkm⟩ : ∃ km, CX.length = km := ⟨_, rfl⟩
              simp only at hpm
              rw [hkm] at hpm
              subst hpm
              clear hm1 hm2 hnk1 hy hCm hOm hkm
              have hwk : IntKind.i64.wrap ((k : Int) + 1) = (k : Int) + 1 := IntWalk.i64_in _ (by omega)
              have hk30 : k ≤ 100000 := by omega
              have hn30 : n ≤ 100000 := by omega
              have i1 : (0 : Int) ≤ (k : Int) := by omega
              have i2 : (k : Int) < (n : Int) + 1 := by omega
              have i3 : (k : Int) < ((n + 1 : Nat) : Int) := by omega
              have HLML : Hid ((lm.take k ++ lm.drop (k + 1)).length = n) := Lib.hid (by rw [List.length_append, HLM1.out, HLM2.out]; exact HKNN.out)
              have hn88 : n ≤ 80000 := by omega
              go_wp2_with fail
              go_region_law (first | (have hq := HO108; clear hq; refine step_rowsS _ rfl (.tmp 108) (.tmp 112) rfl w18.heap.size _ (lm.take k) (lm.drop (k + 1)) M2 nk e2 n (by rfl) ?_ (by rfl) HLM2.out ?_ ?_ hn30 ?_ ?_; (focus exact HO108.out); (focus exact HM2.out.keep HY108.out); (focus (rw [HLM1.out]; exact HKNN.out)); (focus exact size_of0 HY108.out); intro g113 c113 w113 ho113 hx113 _; have HY113 : Hid (Below w18.heap.size w18 w113) := Lib.hid (Below.trans HY108.out hx113); have HO113 := Lib.hid ho113; clear ho113 hx113) | (refine step_rowsS _ rfl (.tmp 104) (.tmp 107) rfl w18.heap.size _ [] (lm.take k) M1 k e1 k (by rfl) (.inl ⟨_, rfl, rfl⟩) (by rfl) HLM1.out ?_ (by simp) hk30 ?_ ?_; (focus exact HM1.out.keep (by repeat (first | with_reducible exact Below.refl _ _ | with_reducible refine below_drew ?_ | with_reducible refine below_alloc0 ?_))); (focus exact size_of0 (by repeat (first | with_reducible exact Below.refl _ _ | with_reducible refine below_drew ?_ | with_reducible refine below_alloc0 ?_))); intro g108 c108 w108 ho108 hx108 _; have HY108 : Hid (Below w18.heap.size w18 w108) := Lib.hid (Below.trans (by repeat (first | with_reducible exact Below.refl _ _ | with_reducible refine below_drew ?_ | with_reducible refine below_alloc0 ?_)) hx108); have HO108 : Hid (EO w108 w18.heap.size (.slice g108 k c108) (lm.take k)) := Lib.hid (by rw [List.nil_append] at ho108; exact ho108); clear ho108 hx108))
              all_goals (
                have HR113 : Hid (ScRow w113 (.slice g113 n c113) (lm.take k ++ lm.drop (k + 1))) := Lib.hid (EO.row HO113.out fun p hp => by
                  rcases List.mem_append.1 hp with hp | hp
                  · exact (HR5.out.2 p (List.mem_of_mem_take hp)).keep HY113.out
                  · exact (HR5.out.2 p (List.mem_of_mem_drop hp)).keep HY113.out)
                have HX113 := Lib.hid (below_mono0 HB18.out HY113.out)
                have HZ113 := Lib.hid (below_mono0 HY18.out HY113.out)
                go_wp2_with fail
                obtain ⟨S1, hS1⟩ : ∃ S, strOfNums CX = S := ⟨_, rfl⟩
                have HS1E := Lib.hid hS1
                have HS1T : Hid ((S1.toList == S1.toList) = true) := Lib.hid (by simp)
                clear hS1
                have hkk : k < n + 1 := by omega
                refine Stab.region 141 [.is (.bool true), .is (.bool true), .is (.slice g113 n c113), .fits (RowIs n (lm.take k ++ lm.drop (k + 1))), .is (.slice A1 n c), .is (.bool true), .is (.bool true), .is (.bool true), .is (.slice (some ⟨gm, om, none⟩) (n + 1) c5), .is (.int .i64 (k : Int)), .is (.pointer (some ⟨gm, om + k * 2, none⟩)), .is (.pointer (some ⟨gm, om + k * 2, none⟩)), .is (.int .i64 0), .is (.bool true), .is (.bool true), .is (.bool true), .is (.slice (some ⟨gm, om, none⟩) (n + 1) c5), .is (.int .i64 (k : Int)), .is (.pointer (some ⟨gm, om + k * 2, none⟩)), .is (.pointer (some ⟨gm, om + k * 2 + 1, none⟩)), .is (.slice Pm km cm), .is (.string S1), .is (.pointer (some ⟨b10, 1, none⟩)), .is (.slice P12 k12 c12), .is (.string S1), .is (.bool true), .is (.bool true), .is (.bool true)] (by kernel_rfl) (by kernel_rfl) rfl rfl ?_ ?_
                · with_reducible refine Stab.steps_cons ?_ ?_ ?_
                  · exact Stab.owes_move rfl rfl rfl
                  · exact trivial
                  with_reducible refine Stab.steps_cons ?_ ?_ ?_
                  · exact Stab.owes_move rfl rfl rfl
                  · exact trivial
                  with_reducible refine Stab.steps_cons ?_ ?_ ?_
                  · exact Stab.owes_move rfl rfl rfl
                  · exact trivial
                  with_reducible refine Stab.steps_cons ?_ ?_ ?_
                  · (refine Stab.owes_call Try.func21 (by kernel_rfl) (by kernel_rfl) rfl (fun vs W hb hall => ?_) rfl; obtain ⟨_, _, rfl, rfl, rfl⟩ := hall; refine (theirs_any (l := lm.take k ++ lm.drop (k + 1)) (A := g113) (n := n) (c := c113) HLML.out (HR113.out.keep hb) hn88).mono ?_; rintro e w4 ⟨⟨P4, c4', rfl, ho4⟩, hb2⟩; exact ⟨_, rfl, hb2, _, _, rfl, OwnS.row ho4 (fun p hp => (HR113.out.2 p hp).keep (below_mono0 hb hb2))⟩)
                  · exact rowIs_stays _ _
                  with_reducible refine Stab.steps_cons ?_ ?_ ?_
                  · exact Stab.owes_move rfl rfl rfl
                  · exact trivial
                  with_reducible refine Stab.steps_cons ?_ ?_ ?_
                  · (refine Stab.owes_call Try.func20 (by kernel_rfl) (by kernel_rfl) rfl (fun vs W hb hall => ?_) rfl; obtain ⟨v4, _, rfl, ⟨P4, c4', rfl, hr4'⟩, _, _, rfl, rfl, rfl⟩ := hall; refine (rsames_yes (a := lm.take k ++ lm.drop (k + 1)) (b := l) (by have := HLML.out; omega) hr4' (HR.out.keep (below_mono0 HX113.out hb)) HLMS.out).mono ?_; rintro e w5 ⟨rfl, hb2⟩; exact ⟨_, rfl, hb2, rfl⟩)
                  · exact trivial
                  with_reducible refine Stab.steps_cons ?_ ?_ ?_
                  · exact Stab.owes_pick rfl rfl rfl rfl
                  · exact trivial
                  with_reducible refine Stab.steps_cons ?_ ?_ ?_
                  · exact Stab.owes_move rfl rfl rfl
                  · exact trivial
                  with_reducible refine Stab.steps_cons ?_ ?_ ?_
                  · exact Stab.owes_move rfl rfl rfl
                  · exact trivial
                  with_reducible refine Stab.steps_cons ?_ ?_ ?_
                  · exact Stab.owes_move rfl rfl rfl
                  · exact trivial
                  with_reducible refine Stab.steps_cons ?_ ?_ ?_
                  · exact Stab.owes_indexAt rfl rfl rfl (fun W => rn_at _ _ _ _ _ W hkk) rfl
                  · exact trivial
                  with_reducible refine Stab.steps_cons ?_ ?_ ?_
                  · exact Stab.owes_fieldAt rfl rfl (fun W => rn_field _ _ W) rfl
                  · exact trivial
                  with_reducible refine Stab.steps_cons ?_ ?_ ?_
                  · exact Stab.owes_load rfl (fun v W hb hv => by subst hv; exact rn_cellI _ _ _ W (HCM.out.keep HGM.out (below_mono0 HY113.out hb)).1) rfl
                  · exact trivial
                  with_reducible refine Stab.steps_cons ?_ ?_ ?_
                  · exact Stab.owes_bin rfl rfl rfl (fun W => rn_eqI _ _ 0 0 true rfl W) rfl
                  · exact trivial
                  with_reducible refine Stab.steps_cons ?_ ?_ ?_
                  · exact Stab.owes_pick rfl rfl rfl rfl
                  · exact trivial
                  with_reducible refine Stab.steps_cons ?_ ?_ ?_
                  · exact Stab.owes_move rfl rfl rfl
                  · exact trivial
                  with_reducible refine Stab.steps_cons ?_ ?_ ?_
                  · exact Stab.owes_move rfl rfl rfl
                  · exact trivial
                  with_reducible refine Stab.steps_cons ?_ ?_ ?_
                  · exact Stab.owes_move rfl rfl rfl
                  · exact trivial
                  with_reducible refine Stab.steps_cons ?_ ?_ ?_
                  · exact Stab.owes_indexAt rfl rfl rfl (fun W => rn_at _ _ _ _ _ W hkk) rfl
                  · exact trivial
                  with_reducible refine Stab.steps_cons ?_ ?_ ?_
                  · exact Stab.owes_fieldAt rfl rfl (fun W => rn_field1 _ _ W) rfl
                  · exact trivial
                  with_reducible refine Stab.steps_cons ?_ ?_ ?_
                  · exact Stab.owes_load rfl (fun v W hb hv => by subst hv; exact rn_cellS _ _ _ _ _ W (HCM.out.keep HGM.out (below_mono0 HY113.out hb)).2) rfl
                  · exact trivial
                  with_reducible refine Stab.steps_cons ?_ ?_ ?_
                  · exact Stab.owes_convert rfl (fun v W hb hv => by subst hv; rw [← HS1E.out]; exact sl_txt (HOM.out.1.keep (below_mono0 HY113.out hb))) rfl
                  · exact trivial
                  with_reducible refine Stab.steps_cons ?_ ?_ ?_
                  · exact Stab.owes_fieldAt rfl rfl (fun W => rn_field1 _ 0 W) rfl
                  · exact trivial
                  with_reducible refine Stab.steps_cons ?_ ?_ ?_
                  · exact Stab.owes_load rfl (fun v W hb hv => by subst hv; exact rn_cellS _ _ _ _ _ W (cells_at ((Below.block (below_mono0 HZ113.out hb) _ hL2).trans HH1.out) 1).1) rfl
                  · exact trivial
                  with_reducible refine Stab.steps_cons ?_ ?_ ?_
                  · exact Stab.owes_convert rfl (fun v W hb hv => by subst hv; rw [← HS1E.out]; exact sl_txt (HS12.out.keep (below_mono0 HZ113.out hb))) rfl
                  · exact trivial
                  with_reducible refine Stab.steps_cons ?_ ?_ ?_
                  · exact Stab.owes_bin rfl rfl rfl (fun W => rn_eqS _ _ _ _ true HS1T.out W) rfl
                  · exact trivial
                  with_reducible refine Stab.steps_cons ?_ ?_ ?_
                  · exact Stab.owes_pick rfl rfl rfl rfl
                  · exact trivial
                  with_reducible refine Stab.steps_cons ?_ ?_ ?_
                  · exact Stab.owes_assign rfl rfl rfl
                  · exact trivial
                  exact Stab.steps_nil
                · intro v3 W hb hx3
                  simp only [Act.put, List.setIfInBounds_toArray]
                  have HW119 := Lib.hid (below_mono0 HX113.out hb)
                  clear hb hx3
                  go_wp2_with fail
                  exact bodyPost_ret (v := .bool true) (by simp [results, Try.results6, go_sem]) rfl ⟨rfl, HW119.out⟩)
        · have hF1 : (F != 0) = true := by simpa using hF
          clear hn7
          go_wp2_with fail
          exact bodyPost_ret (v := .bool true) (by simp [results, Try.results6, go_sem]) rfl ⟨rfl, HB6.out⟩
      · have hC1 : (CE != 0) = true := by simpa using hCE
        clear hn7
        go_wp2_with fail
        exact bodyPost_ret (v := .bool true) (by simp [results, Try.results6, go_sem]) rfl ⟨rfl, HB6.out⟩
theorem custom_any {a4 : Option Addr} {len4 cap4 : Nat} {z4 : List Int} {v : Value} {l : List (Sct × Value)} {s : ByteArray} (d : Int) {w : World} (h1 : ScRow w v l) (hs : s.size ≤ maxLen) (h4 : Leb.Came .u8 w a4 len4 cap4 z4) :
    Calls Try.prog 6 #[v, .int .i64 d, .string s, .slice a4 len4 cap4] w fun e w' => e = .returned (.bool true) ∧ Below w.heap.size w w' := by
  obtain ⟨q1, q2⟩ := came_sl h4
  obtain ⟨⟨A, c, rfl, _⟩, _⟩ := id h1
  exact custom_law d rfl h1 h4.byt.2.1 q1 q2 h4.byt.2.2.2 (by unfold maxLen at hs; omega)
end Go.Proofs.Ytkdnhhhgggmapaa.Sec
