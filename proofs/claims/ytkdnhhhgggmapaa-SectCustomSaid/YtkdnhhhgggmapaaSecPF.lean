/- Join, by the document: walked. -/
import Derived.Test.YtkdnhhhgggmapaaSecPE
namespace Go.Proofs.Ytkdnhhhgggmapaa.Sec
open Go.RowKit Utf
set_option maxRecDepth 100000
set_option maxHeartbeats 8000000
set_option linter.unusedVariables false
def RJTold (R : List Int × Int) (w : World) (e : Ending) (w' : World) : Prop := (∃ g n c, e = .returned (.tuple #[.slice g n c, .int .i64 R.2]) ∧ n = R.1.length ∧ Sl w' (.slice g n c) R.1) ∧ Below w.heap.size w w'
theorem rjtold_err {w w' : World} {E : Int} (h : Below w.heap.size w w') : RJTold ([], E) w (.returned (.tuple #[.slice none 0 0, .int .i64 E])) w' := ⟨⟨none, 0, 0, rfl, rfl, Sl.nil _⟩, h⟩
theorem secs_few : ∀ (l : List Sct), (∀ p ∈ l, p.2.length ≤ 70000) → (secsB l).length ≤ 70011 * l.length
  | [], _ => Nat.le_refl _
  | p :: l, h => by
    have e := secs_few l fun q hq => h q (List.mem_cons_of_mem _ hq)
    have h2 := h p (List.mem_cons_self ..)
    have := Leb.lenU_ten (v := p.2.length) (by omega)
    rw [secsB_len, List.length_cons]
    omega
theorem may1_zeroF {last : Int} {D : List Int} (h : (nm D 0).2.2 ≠ 0) : may1 last (0, D) = false := by
  unfold may1
  simp [h]
theorem may1_low {last x : Int} {D : List Int} (h : x < 0) : may1 last (x, D) = false := by
  unfold may1
  rw [decide_eq_false (by simp only; omega)]
  rfl
theorem may1_high {last x : Int} {D : List Int} (h : 11 < x) : may1 last (x, D) = false := by
  unfold may1
  rw [decide_eq_false (p := x ≤ 11) (by omega)]
  simp
theorem may1_back {last x : Int} {D : List Int} (h : 0 < x) (h2 : x ≤ last) : may1 last (x, D) = false := by
  unfold may1
  rw [show (x == 0) = false from by simp; omega]
  simp
  omega
theorem rjoin_any {l : List (Sct × Value)} {A : Option Addr} {n c : Nat} {w : World} (hn : l.length = n) (hr : ScRow w (.slice A n c) l) (hl : n ≤ 30) (hd : ∀ p ∈ l, p.1.2.length ≤ 70000) :
    Calls Try.prog 15 #[.slice A n c] w (RJTold (join7 (scL l)) w) := by
  have HT : Hid ((secsB (scL l)).length ≤ 2100330) := Lib.hid (by
    have h1 := secs_few (scL l) (fun p hp => by
      obtain ⟨q, hq, rfl⟩ := List.mem_map.1 hp
      exact hd q hq)
    rw [scL_len] at h1
    omega)
  have HN := Lib.hid hn
  have HR := Lib.hid hr
  have HD := Lib.hid hd
  clear hn hr hd
  go_enter Try.func15, Try.ntmps15
  go_wp2_with fail
  refine (rhead_any w).mono ?_
  rintro en w1 ⟨⟨v1, rfl, ho1⟩, hb1⟩
  have HO1 := Lib.hid ho1
  have HB1 := Lib.hid hb1
  clear ho1 hb1
  go_wp2_with fail
  go_loopw [4, 5, 6] (fun la v i' wr => ∃ (i : Nat) (last : Int), la = .int .i64 last ∧ i' = .int .i64 (i : Int) ∧ i ≤ n ∧ 0 ≤ last ∧ mayb 0 (scL l) = mayb last (scL (l.drop i)) ∧ Leb.Own wr w.heap.size v (hd8 ++ secsB (scL (l.take i))) ∧ Below w.heap.size w wr) (fun _ _ i' _ => n - (intOf i').toNat)
  case atStart => exact ⟨0, 0, rfl, by go_num, by omega, by decide, rfl, HO1.out, HB1.out⟩
  case round =>
    obtain ⟨i, last, rfl, rfl, hi, hlo, hF, hO, hW⟩ := hrel
    have HF := Lib.hid hF
    have HO := Lib.hid hO
    have HW := Lib.hid hW
    clear hF hO hW
    by_cases hlt : i < n
    · obtain ⟨y, hy⟩ : ∃ y, l[i]? = some y := ⟨_, List.getElem?_eq_getElem (by rw [HN.out]; exact hlt)⟩
      obtain ⟨g, off, rfl, hC0, hO0⟩ := HR.out.at_ hy
      have HM := Lib.hid (mayb_drop (last := last) hy)
      have HS := Lib.hid (secs_take hy)
      have HPR := Lib.hid (secs_pre l (i + 1))
      obtain ⟨P, cd, hp, _⟩ := id hO0.1
      have hdl := HD.out _ (List.mem_of_getElem? hy)
      obtain ⟨q1, q2⟩ := hC0.keep (sc_lt hC0) HW.out
      obtain ⟨⟨x, D⟩, ov⟩ := y
      simp only at q1 q2 hp hdl HS HM
      obtain ⟨k, hk⟩ : ∃ k, D.length = k := ⟨_, rfl⟩
      rw [hk] at hp hdl HS
      subst hp
      have HK := Lib.hid hk
      have HSL : Hid (Sl w (.slice P k cd) D) := Lib.hid hO0.1
      have HDB : Hid (∀ z ∈ D, 0 ≤ z ∧ z < 256) := Lib.hid hO0.2
      have HDA : Hid (Leb.Byt w w.heap.size P D) := Lib.hid (sl_bytA hO0.1)
      clear hy hO0 hC0 hk
      have i1 : (0 : Int) ≤ (i : Int) := by omega
      have i2 : (i : Int) < (n : Int) := by omega
      have hw1 : IntKind.i64.wrap ((i : Int) + 1) = (i : Int) + 1 := IntWalk.i64_in _ (by omega)
      have HAL := Lib.hid ((Below.refl wr.heap.size wr).alloc (Nat.le_refl _) (.cells #[.int .i64 x, .slice P k cd] 43))
      have HNM := Lib.hid (rname_any (.slice P k cd) D 0 _ HDB.out ((HSL.out.keep HW.out).keep HAL.out) (by rw [HK.out]; omega))
      obtain ⟨⟨N0, N1, E⟩, hNM⟩ : ∃ y, nm D 0 = y := ⟨_, rfl⟩
      rw [hNM] at HNM
      have HE : Hid ((nm D 0).2.2 = E) := Lib.hid (by rw [hNM])
      clear hNM
      have HOUT : Hid (may1 last (x, D) = false → join7 (scL l) = ([], 1)) := Lib.hid fun h => join_bad (by rw [HF.out, HM.out, h]; rfl)
      by_cases hx0 : x < 0
      · have s1 : decide (x < 0) = true := decide_eq_true hx0
        have HV : Hid (join7 (scL l) = ([], 1)) := Lib.hid (HOUT.out (may1_low hx0))
        go_wp2_with fail
        refine HNM.out.mono ?_
        rintro en w2 ⟨rfl, hb2⟩
        have hd2 := (hb2.block _ (by rw [size_new1]; omega)).trans (heap_new wr _)
        have z0 := (cells_at hd2 0).1
        have HB2 := Lib.hid (HW.out.trans ((HAL.out.trans (hb2.mono HAL.out.size)).mono HW.out.size))
        clear hb2 hd2
        go_wp2_with fail
        exact bodyPost_ret (v := .tuple #[.slice none 0 0, .int .i64 1]) (by simp [results, Try.results15, go_sem]) rfl (by rw [HV.out]; exact rjtold_err HB2.out)
      · have s1 : decide (x < 0) = false := decide_eq_false hx0
        by_cases hx11 : 11 < x
        · have s2 : decide (11 < x) = true := decide_eq_true hx11
          have HV : Hid (join7 (scL l) = ([], 1)) := Lib.hid (HOUT.out (may1_high hx11))
          go_wp2_with fail
          refine HNM.out.mono ?_
          rintro en w2 ⟨rfl, hb2⟩
          have hd2 := (hb2.block _ (by rw [size_new1]; omega)).trans (heap_new wr _)
          have z0 := (cells_at hd2 0).1
          have HB2 := Lib.hid (HW.out.trans ((HAL.out.trans (hb2.mono HAL.out.size)).mono HW.out.size))
          clear hb2 hd2
          go_wp2_with fail
          exact bodyPost_ret (v := .tuple #[.slice none 0 0, .int .i64 1]) (by simp [results, Try.results15, go_sem]) rfl (by rw [HV.out]; exact rjtold_err HB2.out)
        · have s2 : decide (11 < x) = false := decide_eq_false hx11
          have hbad : (x = 0 ∧ E ≠ 0 ∨ 0 < x ∧ x ≤ last) ∨ (x = 0 ∧ E = 0 ∨ 0 < x ∧ last < x) := by omega
          rcases hbad with hbad | hgood
          · have HV : Hid (join7 (scL l) = ([], 1)) := Lib.hid (HOUT.out (by
              rcases hbad with ⟨h, h'⟩ | ⟨h, h'⟩
              · subst h
                exact may1_zeroF (by rw [HE.out]; exact h')
              · exact may1_back h h'))
            obtain ⟨b1, b2, b3, b4, hb1, hb2, hb3, hb4, hbb⟩ : ∃ b1 b2 b3 b4 : Bool, (x == 0) = b1 ∧ (E != 0) = b2 ∧ decide (0 < x) = b3 ∧ decide (x ≤ last) = b4 ∧ ((b1 = true ∧ b2 = true) ∨ (b1 = false ∧ b3 = true ∧ b4 = true)) := by
              refine ⟨_, _, _, _, rfl, rfl, rfl, rfl, ?_⟩
              rcases hbad with ⟨h, h'⟩ | ⟨h, h'⟩
              · exact .inl ⟨by simpa using h, by simpa using h'⟩
              · exact .inr ⟨by simp; omega, decide_eq_true h, decide_eq_true h'⟩
            rcases hbb with ⟨rfl, rfl⟩ | ⟨rfl, rfl, rfl⟩
            all_goals (
              go_wp2_with fail
              refine HNM.out.mono ?_
              rintro en w2 ⟨rfl, hb2'⟩
              have hd2 := (hb2'.block _ (by rw [size_new1]; omega)).trans (heap_new wr _)
              have z0 := (cells_at hd2 0).1
              have HB2 := Lib.hid (HW.out.trans ((HAL.out.trans (hb2'.mono HAL.out.size)).mono HW.out.size))
              clear hb2' hd2
              go_wp2_with fail
              exact bodyPost_ret (v := .tuple #[.slice none 0 0, .int .i64 1]) (by simp [results, Try.results15, go_sem]) rfl (by rw [HV.out]; exact rjtold_err HB2.out))
          · have hm1 : may1 last (x, D) = true := by
              rcases hgood with ⟨h, h'⟩ | ⟨h, h'⟩
              · subst h
                exact may1_mk0 (by rw [HE.out]; exact h')
              · exact may1_mk h (by omega) h'
            obtain ⟨mx, hmx⟩ : ∃ mx, max last x = mx := ⟨_, rfl⟩
            have HMI : Hid ((if last < x then x else last) = mx) := Lib.hid (by rw [← hmx]; split <;> omega)
            have HMX : Hid (0 ≤ mx) := Lib.hid (by omega)
            have HV : Hid (mayb 0 (scL l) = mayb mx (scL (l.drop (i + 1)))) := Lib.hid (by rw [HF.out, HM.out, ← hmx, hm1]; rfl)
            have hw2 : IntKind.u8.wrap x = x := by rw [IntKind.wrap_u8]; omega
            have hw3 : IntKind.u64.wrap (k : Int) = (k : Int) := IntWalk.u64_in _ (by omega)
            have HNE : Hid (∀ v', Leb.Own wr w.heap.size v' (hd8 ++ secsB (scL (l.take i))) → some wr.heap.size ≠ v'.ownBlock) := Lib.hid fun v' hv e => by
              have h1 := (World.ownsRow.lt hv.2 _ e.symm).2
              omega
            obtain ⟨T, hT⟩ : ∃ T, hd8 ++ secsB (scL (l.take i)) = T := ⟨_, rfl⟩
            have HTT : Hid (T.length + (1 + Leb.lenU k + k) ≤ 2100338) := Lib.hid (by
              have h1 := HPR.out
              have h2 := HT.out
              rw [HS.out, List.length_append, List.length_cons, List.length_append, Leb.uB_len, HK.out] at h1
              rw [← hT, List.length_append, show hd8.length = 8 from rfl]
              omega)
            obtain ⟨T1, hT1⟩ : ∃ T1, T ++ [x] = T1 := ⟨_, rfl⟩
            have HT1 : Hid (T1.length = T.length + 1) := Lib.hid (by rw [← hT1]; simp)
            obtain ⟨T2, hT2⟩ : ∃ T2, T1 ++ Leb.uB k = T2 := ⟨_, rfl⟩
            have HT2 : Hid (T2.length = T1.length + Leb.lenU k) := Lib.hid (by rw [← hT2, List.length_append, Leb.uB_len])
            have HST : Hid (hd8 ++ secsB (scL (l.take (i + 1))) = T2 ++ D) := Lib.hid (by rw [HS.out, ← hT2, ← hT1, ← hT]; simp)
            rw [hT] at HO HNE
            have HT1E := Lib.hid hT1
            have HT2E := Lib.hid hT2
            have HGOOD := Lib.hid hgood
            have HMXE := Lib.hid hmx
            clear hT hT1 hT2 hm1 hmx hgood
            rcases HGOOD.out with ⟨hx, hE⟩ | ⟨h0x, hlx⟩
            · subst hx hE
              have HML1 : Hid (last = mx) := Lib.hid (by have := HMXE.out; omega)
              have s0 : decide (last < 0) = false := decide_eq_false (by omega)
              go_wp2_with fail
              refine HNM.out.mono ?_
              rintro en w2 ⟨rfl, hb2'⟩
              have hd2 := (hb2'.block _ (by rw [size_new1]; omega)).trans (heap_new wr _)
              have HD2 := Lib.hid hd2
              have z0 := (cells_at hd2 0).1
              have HB2r := Lib.hid (HAL.out.trans (hb2'.mono HAL.out.size))
              have HB2 := Lib.hid (HW.out.trans (HB2r.out.mono HW.out.size))
              have HO2 := Lib.hid (HO.out.keep HB2r.out)
              have HWL : Hid (wr.heap.size < w2.heap.size) := Lib.hid (by have := hb2'.size; rw [size_new1] at this; omega)
              clear hb2' hd2
              go_wp2_with (at_builtin; refine stop_ ?_)
              refine Lib.hid ?_
              refine wp_byteK w2 rfl (.tmp 61) (.tmp 65) rfl w.heap.size _ T 0 rfl HO2.out rfl ?_ HB2.out.size ?_
              focus (have := HTT.out; omega)
              intro v3 w3 ho3 hb3 hk3
              rw [HT1E.out] at ho3
              have hd3 := (hk3 _ HWL.out (HNE.out _ HO.out)).trans HD2.out
              have HD3 := Lib.hid hd3
              have HB3 := Lib.hid (HB2.out.trans hb3)
              obtain ⟨⟨g3, c3, rfl⟩, _⟩ := id ho3
              have HU := Lib.hid (Leb.refU_any (some ⟨g3, 0, none⟩) c3 k T1 w3 (Leb.Own.byt ho3) (by have := HTT.out; have := HT1.out; omega) (by omega))
              have HWL3 : Hid (wr.heap.size < w3.heap.size) := Lib.hid (Array.getElem?_eq_some_iff.1 hd3).1
              clear ho3 hb3 hk3
              have z1 := (cells_at hd3 1).1
              clear hd3 z0
              go_wp2_with fail
              refine HU.out.mono ?_
              rintro en w4 ⟨v4, rfl, ho4, hb4⟩
              rw [HT2E.out] at ho4
              obtain ⟨⟨g4, c4, rfl⟩, _⟩ := id ho4
              have hd4 := (hb4.block _ HWL3.out).trans HD3.out
              have HB4 := Lib.hid (HB3.out.trans (hb4.mono HB3.out.size))
              have HO4 := Lib.hid (ho4.mono HB3.out.size)
              clear ho4 hb4 z1
              have z1 := (cells_at hd4 1).1
              clear hd4
              go_wp2_with (at_builtin; refine stop_ ?_)
              refine Lib.hid ?_
              refine Leb.wp_bytes _ rfl (.tmp 73) (.tmp 75) rfl w.heap.size w.heap.size _ T2 D rfl HO4.out P cd ?_ (HDA.out.keep HB4.out) ?_ HB4.out.size ?_
              focus (rw [HK.out]; rfl)
              focus (have := HTT.out; have := HT1.out; have := HT2.out; rw [HK.out]; omega)
              intro v6 w6 ho6 hb6
              rw [← HST.out] at ho6
              have HB6 := Lib.hid (HB4.out.trans hb6)
              have HO6 := Lib.hid ho6
              clear ho6 hb6 z1
              go_wp2_with fail
              go_roundw
              case rel => exact ⟨i + 1, mx, by first | rw [HML1.out] | rw [HMI.out], by go_num, hlt, HMX.out, HV.out, HO6.out, HB6.out⟩
              case measure => simp [intOf]; omega
            · have HML1 : Hid (x = mx) := Lib.hid (by have := HMXE.out; omega)
              have s3 : (x == 0) = false := by simp; omega
              have s4 : decide (0 < x) = true := decide_eq_true h0x
              have s5 : decide (x ≤ last) = false := decide_eq_false (by omega)
              go_wp2_with fail
              refine HNM.out.mono ?_
              rintro en w2 ⟨rfl, hb2'⟩
              have hd2 := (hb2'.block _ (by rw [size_new1]; omega)).trans (heap_new wr _)
              have HD2 := Lib.hid hd2
              have z0 := (cells_at hd2 0).1
              have HB2r := Lib.hid (HAL.out.trans (hb2'.mono HAL.out.size))
              have HB2 := Lib.hid (HW.out.trans (HB2r.out.mono HW.out.size))
              have HO2 := Lib.hid (HO.out.keep HB2r.out)
              have HWL : Hid (wr.heap.size < w2.heap.size) := Lib.hid (by have := hb2'.size; rw [size_new1] at this; omega)
              clear hb2' hd2
              go_wp2_with (at_builtin; refine stop_ ?_)
              refine Lib.hid ?_
              refine wp_byteK w2 rfl (.tmp 61) (.tmp 65) rfl w.heap.size _ T x rfl HO2.out rfl ?_ HB2.out.size ?_
              focus (have := HTT.out; omega)
              intro v3 w3 ho3 hb3 hk3
              rw [HT1E.out] at ho3
              have hd3 := (hk3 _ HWL.out (HNE.out _ HO.out)).trans HD2.out
              have HD3 := Lib.hid hd3
              have HB3 := Lib.hid (HB2.out.trans hb3)
              obtain ⟨⟨g3, c3, rfl⟩, _⟩ := id ho3
              have HU := Lib.hid (Leb.refU_any (some ⟨g3, 0, none⟩) c3 k T1 w3 (Leb.Own.byt ho3) (by have := HTT.out; have := HT1.out; omega) (by omega))
              have HWL3 : Hid (wr.heap.size < w3.heap.size) := Lib.hid (Array.getElem?_eq_some_iff.1 hd3).1
              clear ho3 hb3 hk3
              have z1 := (cells_at hd3 1).1
              clear hd3 z0
              go_wp2_with fail
              refine HU.out.mono ?_
              rintro en w4 ⟨v4, rfl, ho4, hb4⟩
              rw [HT2E.out] at ho4
              obtain ⟨⟨g4, c4, rfl⟩, _⟩ := id ho4
              have hd4 := (hb4.block _ HWL3.out).trans HD3.out
              have HB4 := Lib.hid (HB3.out.trans (hb4.mono HB3.out.size))
              have HO4 := Lib.hid (ho4.mono HB3.out.size)
              clear ho4 hb4 z1
              have z1 := (cells_at hd4 1).1
              clear hd4
              go_wp2_with (at_builtin; refine stop_ ?_)
              refine Lib.hid ?_
              refine Leb.wp_bytes _ rfl (.tmp 73) (.tmp 75) rfl w.heap.size w.heap.size _ T2 D rfl HO4.out P cd ?_ (HDA.out.keep HB4.out) ?_ HB4.out.size ?_
              focus (rw [HK.out]; rfl)
              focus (have := HTT.out; have := HT1.out; have := HT2.out; rw [HK.out]; omega)
              intro v6 w6 ho6 hb6
              rw [← HST.out] at ho6
              have HB6 := Lib.hid (HB4.out.trans hb6)
              have HO6 := Lib.hid ho6
              clear ho6 hb6 z1
              go_wp2_with fail
              go_roundw
              case rel => exact ⟨i + 1, mx, by first | rw [HML1.out] | rw [HMI.out], by go_num, hlt, HMX.out, HV.out, HO6.out, HB6.out⟩
              case measure => simp [intOf]; omega
    · have hin : i = n := by omega
      subst hin
      have hm : mayb 0 (scL l) = true := by rw [HF.out, List.drop_eq_nil_of_le (by rw [HN.out]; exact Nat.le_refl _)]; rfl
      rw [List.take_of_length_le (by rw [HN.out]; exact Nat.le_refl _)] at HO
      obtain ⟨⟨g7, c7, rfl⟩, _⟩ := id HO.out
      obtain ⟨m, hm'⟩ : ∃ m, (hd8 ++ secsB (scL l)).length = m := ⟨_, rfl⟩
      have HML := Lib.hid hm'
      have hm8 : 8 + (secsB (scL l)).length = m := by rw [← hm', List.length_append]; rfl
      rw [hm'] at HO ⊢
      by_cases hbig : 65536 < m
      · have HV : Hid (join7 (scL l) = ([], 4)) := Lib.hid (join_big hm (by omega))
        have t1 : decide ((65536 : Int) < (m : Int)) = true := decide_eq_true (by omega)
        have t1' : decide (65536 < m) = true := decide_eq_true hbig
        clear hm hm' hm8 hbig
        go_wp2_with fail
        exact bodyPost_ret (v := .tuple #[.slice none 0 0, .int .i64 4]) (by simp [results, Try.results15, go_sem]) rfl (by rw [HV.out]; exact rjtold_err HW.out)
      · have HV : Hid (join7 (scL l) = (hd8 ++ secsB (scL l), 0)) := Lib.hid (join_ok hm (by omega))
        have t1 : decide ((65536 : Int) < (m : Int)) = false := decide_eq_false (by omega)
        have t1' : decide (65536 < m) = false := decide_eq_false hbig
        have HSLO : Hid (Sl wr (.slice (some ⟨g7, 0, none⟩) m c7) (hd8 ++ secsB (scL l))) := Lib.hid (by rw [← HML.out]; rw [← HML.out] at HO; exact own_sl8 HO.out)
        clear hm hm' hm8 hbig
        go_wp2_with fail
        exact bodyPost_ret (v := .tuple #[.slice (some ⟨g7, 0, none⟩) m c7, .int .i64 0]) (by simp [results, Try.results15, go_sem]) rfl (by rw [HV.out]; exact ⟨⟨some ⟨g7, 0, none⟩, m, c7, rfl, HML.out.symm, HSLO.out⟩, HW.out⟩)
end Go.Proofs.Ytkdnhhhgggmapaa.Sec
