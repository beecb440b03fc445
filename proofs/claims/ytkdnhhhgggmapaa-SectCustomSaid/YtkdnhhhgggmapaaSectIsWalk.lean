/- SectIs walked: any bytes' sections, any sections' bytes, one of them, and one of a name, are what the document says. -/
import Derived.Test.YtkdnhhhgggmapaaSectBackWalk
namespace Go.Proofs.Ytkdnhhhgggmapaa.Sec
open Go.RowKit Utf
set_option maxRecDepth 100000
set_option maxHeartbeats 2000000
set_option linter.unusedVariables false
theorem fndV_form {l : List (Sct × Value)} {v : Value} {w : World} (d : Int) (h : ScRow w v l) : ∃ P k cd, fndV (fnd l d) = .slice P k cd ∧ Sl w (.slice P k cd) (fndD (fnd l d)) := by
  cases hf : fnd l d with
  | none => exact ⟨none, 0, 0, rfl, Sl.nil _⟩
  | some p =>
    have hp : p ∈ l := List.mem_of_find?_eq_some hf
    have ho := (h.2 p hp).1
    obtain ⟨P, cd, e, _⟩ := id ho
    refine ⟨P, p.1.2.length, cd, e, ?_⟩
    rw [← e]
    exact ho
/-- What Custom tells, its slice written out. -/
def CAt (E : Int) (X : List Int) (w : World) (e : Ending) (w' : World) : Prop := (∃ P k c, e = .returned (.tuple #[.agg #[.int .i64 0, .slice P k c], .int .i64 E]) ∧ Sl w' (.slice P k c) X) ∧ Below w.heap.size w w'
noncomputable def cuX (s D : List Int) : List Int := bif fltE s == 0 then Leb.uB s.length ++ s ++ D else []
theorem CTold.at_ {w : World} {s D : List Int} {e : Ending} {w' : World} (h : CTold w s D e w') : CAt (fltE s) (cuX s D) w e w' := by
  obtain ⟨⟨h0, v, rfl, hv⟩ | ⟨h0, rfl⟩, hb⟩ := h
  · obtain ⟨P, c, e, _⟩ := id hv
    refine ⟨⟨P, _, c, by rw [e, h0], ?_⟩, hb⟩
    rw [← e]
    unfold cuX
    rw [h0]
    exact hv
  · refine ⟨⟨none, 0, 0, rfl, ?_⟩, hb⟩
    unfold cuX
    rw [show (fltE s == 0) = false from by simpa using h0]
    exact Sl.nil _
theorem pcustom_any {A : Option Addr} {n c : Nat} {s : ByteArray} {D : List Int} {w : World} (hs : s.size ≤ 1000) (hn : D.length = n) (hD : n ≤ 1000000) (hv : Sl w (.slice A n c) D) : Calls Try.prog 18 #[.string s, .slice A n c] w (CAt (fltE (bl s)) (cuX (bl s) D) w) := by
  by_cases h : fltE (bl s) = 0
  · exact (pcustom_ok hs h hn hD hv).mono fun e w' h => h.at_
  · exact (pcustom_err (D := D) hs h).mono fun e w' h => h.at_
theorem rcustom_any {A : Option Addr} {n c : Nat} {s : ByteArray} {D : List Int} {w : World} (hs : s.size ≤ 1000) (hn : D.length = n) (hD : n ≤ 1000000) (hv : Sl w (.slice A n c) D) : Calls Try.prog 19 #[.string s, .slice A n c] w (CAt (fltE (bl s)) (cuX (bl s) D) w) := by
  by_cases h : fltE (bl s) = 0
  · exact (rcustom_ok hs h hn hD hv).mono fun e w' h => h.at_
  · exact (rcustom_err (D := D) hs h).mono fun e w' h => h.at_
theorem is_law {A0 A1 A4 : Option Addr} {n0 c0 n1 c1 n4 c4 : Nat} {b D : List Int} {l : List (Sct × Value)} {s : ByteArray} {w : World} (d : Int) (hn0 : b.length = n0) (hs0 : Sl w (.slice A0 n0 c0) b) (hby : ∀ x ∈ b, 0 ≤ x ∧ x < 256)
    (hn1 : l.length = n1) (hr : ScRow w (.slice A1 n1 c1) l) (hn4 : D.length = n4) (hs4 : Sl w (.slice A4 n4 c4) D) (hm0 : n0 ≤ 9223372036854775807) (hm4 : n4 ≤ 9223372036854775807) (hms : s.size ≤ 9223372036854775807) :
    Calls Try.prog 3 #[.slice A0 n0 c0, .slice A1 n1 c1, .int .i64 d, .string s, .slice A4 n4 c4] w fun e w' => e = .returned (.bool true) ∧ Below w.heap.size w w' := by
  have HN0 := Lib.hid hn0
  have HS0 := Lib.hid hs0
  have HBY := Lib.hid hby
  have HN1 := Lib.hid hn1
  have HR := Lib.hid hr
  have HN4 := Lib.hid hn4
  have HS4 := Lib.hid hs4
  clear hn0 hs0 hby hn1 hr hn4 hs4
  obtain ⟨b1, hb1⟩ : ∃ x, decide ((70000 : Int) < (n0 : Int)) = x := ⟨_, rfl⟩
  obtain ⟨b3, hb3⟩ : ∃ x, decide ((200 : Int) < (s.size : Int)) = x := ⟨_, rfl⟩
  obtain ⟨b4, hb4⟩ : ∃ x, decide ((200 : Int) < (n4 : Int)) = x := ⟨_, rfl⟩
  have hb1' : decide (70000 < n0) = b1 := by rw [← hb1]; simp only [decide_eq_decide]; omega
  have hb3' : decide (200 < s.size) = b3 := by rw [← hb3]; simp only [decide_eq_decide]; omega
  have hb4' : decide (200 < n4) = b4 := by rw [← hb4]; simp only [decide_eq_decide]; omega
  by_cases hout : b1 = true
  · subst hout
    go_enter Try.func3, Try.ntmps3
    go_wp2_with fail
    refine (awake_any _).mono ?_
    rintro en w1 ⟨rfl, hb⟩
    have HB1 := Lib.hid hb
    clear hb
    go_wp2_with fail
    exact bodyPost_ret (v := .bool true) (by simp [results, Try.results3, go_sem]) rfl ⟨rfl, HB1.out⟩
  · have hb1f : b1 = false := by simpa using hout
    subst hb1f
    clear hout
    have hl0 : n0 ≤ 70000 := by have := of_decide_eq_false hb1'; omega
    by_cases hout : b3 = true ∨ b4 = true
    · go_enter Try.func3, Try.ntmps3
      go_wp2_with fail
      refine (awake_any _).mono ?_
      rintro en w1 ⟨rfl, hb⟩
      have HB1 := Lib.hid hb
      clear hb
      go_wp2_with fail
      refine (fews_any HN1.out (HR.out.keep HB1.out)).mono ?_
      rintro en w2 ⟨⟨fw, rfl, hfw⟩, rfl⟩
      clear hfw
      have key : (fw = false) ∨ (fw = true ∧ b3 = true) ∨ (fw = true ∧ b3 = false ∧ b4 = true) := by cases fw <;> cases b3 <;> cases b4 <;> simp_all
      clear hout
      rcases key with rfl | ⟨rfl, rfl⟩ | ⟨rfl, rfl, rfl⟩
      · clear hb3 hb4 hb3' hb4'
        go_wp2_with fail
        exact bodyPost_ret (v := .bool true) (by simp [results, Try.results3, go_sem]) rfl ⟨rfl, HB1.out⟩
      · clear hb4 hb4'
        go_wp2_with fail
        exact bodyPost_ret (v := .bool true) (by simp [results, Try.results3, go_sem]) rfl ⟨rfl, HB1.out⟩
      · go_wp2_with fail
        exact bodyPost_ret (v := .bool true) (by simp [results, Try.results3, go_sem]) rfl ⟨rfl, HB1.out⟩
    · have hb3f : b3 = false := by cases b3 <;> simp_all
      have hb4f : b4 = false := by cases b4 <;> simp_all
      subst hb3f hb4f
      clear hout
      have hl3 : s.size ≤ 200 := by have := of_decide_eq_false hb3'; omega
      have hl4 : n4 ≤ 200 := by have := of_decide_eq_false hb4'; omega
      obtain ⟨⟨L, E⟩, hq⟩ : ∃ R, split7 b = R := ⟨_, rfl⟩
      obtain ⟨nL, hnL⟩ : ∃ nL, L.length = nL := ⟨_, rfl⟩
      have HQ := Lib.hid hq
      have HNL := Lib.hid hnL
      have hnl8 : nL ≤ 65536 := by
        by_cases hE : E = 0
        · subst hE
          obtain ⟨_, h2, h3⟩ := split_told HBY.out hq
          have := secs_long L
          omega
        · have : L = [] := split_err hq hE
          rw [this] at hnL
          simp at hnL
          omega
      clear hq hnL
      obtain ⟨⟨J, F⟩, hj⟩ : ∃ R, join7 (scL l) = R := ⟨_, rfl⟩
      have HJ := Lib.hid hj
      clear hj
      obtain ⟨P9, k9, cd9, hf9, hs9⟩ := fndV_form d HR.out
      have HF9 := Lib.hid hf9
      have HS9 := Lib.hid hs9
      clear hf9 hs9
      obtain ⟨FD, hFD⟩ : ∃ X, fndD (fnd l d) = X := ⟨_, rfl⟩
      have HFD := Lib.hid hFD
      rw [hFD] at HS9
      clear hFD
      obtain ⟨ok, hok⟩ : ∃ X, (fnd l d).isSome = X := ⟨_, rfl⟩
      have HOK := Lib.hid hok
      clear hok
      obtain ⟨CX, hCX⟩ : ∃ X, cuX (bl s) D = X := ⟨_, rfl⟩
      obtain ⟨CE, hCE⟩ : ∃ X, fltE (bl s) = X := ⟨_, rfl⟩
      have HCX := Lib.hid hCX
      have HCE := Lib.hid hCE
      clear hCX hCE
      go_enter Try.func3, Try.ntmps3
      go_wp2_with fail
      refine (awake_any _).mono ?_
      rintro en w1 ⟨rfl, hb⟩
      have HB1 := Lib.hid hb
      clear hb
      go_wp2_with fail
      refine (fews_any HN1.out (HR.out.keep HB1.out)).mono ?_
      rintro en w2 ⟨⟨fw, rfl, hfw⟩, rfl⟩
      cases fw with
      | false =>
        clear hfw
        go_wp2_with fail
        exact bodyPost_ret (v := .bool true) (by simp [results, Try.results3, go_sem]) rfl ⟨rfl, HB1.out⟩
      | true =>
        obtain ⟨hf1, hf2⟩ := few_len (hfw.1 rfl) HN1.out
        have HF2 := Lib.hid hf2
        clear hfw hf2
        go_wp2_with fail
        refine (psplit_at (HS0.out.keep HB1.out) HBY.out HQ.out HNL.out).mono ?_
        rintro en w3 ⟨A3, c3, l3, rfl, hr3, hl3', hn3, hb⟩
        have HB3 := Lib.hid (HB1.out.trans (hb.mono HB1.out.size))
        have HR3 := Lib.hid hr3
        have HL3 := Lib.hid hl3'
        have HN3 := Lib.hid hn3
        clear hr3 hl3' hn3 hb
        go_wp2_with fail
        refine (rsplit_at (HS0.out.keep HB3.out) HBY.out HQ.out HNL.out).mono ?_
        rintro en w4 ⟨A5, c5, l5, rfl, hr5, hl5, hn5, hb⟩
        have HB4 := Lib.hid (HB3.out.trans (hb.mono HB3.out.size))
        have HR3 := Lib.hid (HR3.out.keep hb)
        have HR5 := Lib.hid hr5
        have HL5 := Lib.hid hl5
        have HN5 := Lib.hid hn5
        clear hr5 hl5 hn5 hb
        go_wp2_with fail
        refine (ours_any HN1.out (HR.out.keep HB4.out) (by omega)).mono ?_
        rintro en w5 ⟨⟨P6, c6, rfl, ho6⟩, hb⟩
        have HB5 := Lib.hid (HB4.out.trans (hb.mono HB4.out.size))
        have HR6 := Lib.hid (ours_row HR.out ho6 HB5.out)
        have HR3 := Lib.hid (HR3.out.keep hb)
        have HR5 := Lib.hid (HR5.out.keep hb)
        clear ho6 hb
        go_wp2_with fail
        refine (pjoin_any HN1.out HR6.out (by omega) (fun p hp => by have := HF2.out p hp; omega)).mono ?_
        rintro en w6 ⟨⟨g7, n7, c7, rfl, hn7, _, hs7⟩, hb⟩
        rw [HJ.out] at hn7 hs7 ⊢
        simp only at hn7 hs7 ⊢
        have HB6 := Lib.hid (HB5.out.trans (hb.mono HB5.out.size))
        have HR3 := Lib.hid (HR3.out.keep hb)
        have HR5 := Lib.hid (HR5.out.keep hb)
        have HS7 := Lib.hid hs7
        clear hs7 hn7 hb
        go_wp2_with fail
        refine (rjoin_any HN1.out (HR.out.keep HB6.out) hf1 HF2.out).mono ?_
        rintro en w7 ⟨⟨g8, n8, c8, rfl, hn8, hs8⟩, hb⟩
        rw [HJ.out] at hn8 hs8 ⊢
        simp only at hn8 hs8 ⊢
        have HB7 := Lib.hid (HB6.out.trans (hb.mono HB6.out.size))
        have HR3 := Lib.hid (HR3.out.keep hb)
        have HR5 := Lib.hid (HR5.out.keep hb)
        have HS7 := Lib.hid (HS7.out.keep hb)
        have HS8 := Lib.hid hs8
        clear hs8 hn8 hb
        go_wp2_with fail
        refine (ours_any HN1.out (HR.out.keep HB7.out) (by omega)).mono ?_
        rintro en w8 ⟨⟨P10, c10, rfl, ho10⟩, hb⟩
        have HB8 := Lib.hid (HB7.out.trans (hb.mono HB7.out.size))
        have HR10 := Lib.hid (ours_row HR.out ho10 HB8.out)
        have HR3 := Lib.hid (HR3.out.keep hb)
        have HR5 := Lib.hid (HR5.out.keep hb)
        have HS7 := Lib.hid (HS7.out.keep hb)
        have HS8 := Lib.hid (HS8.out.keep hb)
        clear ho10 hb
        go_wp2_with fail
        refine (pfind_any d HN1.out HR10.out (fun p hp => by have := HF2.out p hp; omega)).mono ?_
        rintro en w9 ⟨⟨g11, n11, c11, rfl, hs11, hn11⟩, hb⟩
        rw [HFD.out] at hs11
        rw [HOK.out]
        have HB9 := Lib.hid (HB8.out.trans (hb.mono HB8.out.size))
        have HR3 := Lib.hid (HR3.out.keep hb)
        have HR5 := Lib.hid (HR5.out.keep hb)
        have HS7 := Lib.hid (HS7.out.keep hb)
        have HS8 := Lib.hid (HS8.out.keep hb)
        have HS11 := Lib.hid hs11
        clear hs11 hn11 hb
        go_wp2_with fail
        refine (rfind_any d HN1.out (HR.out.keep HB9.out)).mono ?_
        rintro en w10 ⟨rfl, rfl⟩
        rw [HOK.out, HF9.out]
        go_wp2_with fail
        refine (pcustom_any (by omega) HN4.out (by omega) (HS4.out.keep HB9.out)).mono ?_
        rintro en w11 ⟨⟨P12, k12, c12, rfl, hs12⟩, hb⟩
        rw [HCX.out] at hs12
        rw [HCE.out]
        have HB11 := Lib.hid (HB9.out.trans (hb.mono HB9.out.size))
        have HR3 := Lib.hid (HR3.out.keep hb)
        have HR5 := Lib.hid (HR5.out.keep hb)
        have HS7 := Lib.hid (HS7.out.keep hb)
        have HS8 := Lib.hid (HS8.out.keep hb)
        have HS11 := Lib.hid (HS11.out.keep hb)
        have HS12 := Lib.hid hs12
        clear hs12 hb
        have HA := Lib.hid ((Below.refl w11.heap.size w11).alloc (Nat.le_refl _) (.cells #[.int .i64 0, .slice P12 k12 c12] 40))
        have HB12 := Lib.hid (HB11.out.trans (HA.out.mono HB11.out.size))
        have HR3 := Lib.hid (HR3.out.keep HA.out)
        have HR5 := Lib.hid (HR5.out.keep HA.out)
        have HS7 := Lib.hid (HS7.out.keep HA.out)
        have HS8 := Lib.hid (HS8.out.keep HA.out)
        have HS11 := Lib.hid (HS11.out.keep HA.out)
        have HS12 := Lib.hid (HS12.out.keep HA.out)
        have HH1 := Lib.hid (heap_new w11 (.cells #[.int .i64 0, .slice P12 k12 c12] 40))
        have HZ1 := Lib.hid (size_new1 w11 (.cells #[.int .i64 0, .slice P12 k12 c12] 40))
        go_wp2_with fail
        refine (rcustom_any (by omega) HN4.out (by omega) (HS4.out.keep HB12.out)).mono ?_
        rintro en w13 ⟨⟨P14, k14, c14, rfl, hs14⟩, hb⟩
        rw [HCX.out] at hs14
        rw [HCE.out]
        have HB13 := Lib.hid (HB12.out.trans (hb.mono HB12.out.size))
        have HR3 := Lib.hid (HR3.out.keep hb)
        have HR5 := Lib.hid (HR5.out.keep hb)
        have HS7 := Lib.hid (HS7.out.keep hb)
        have HS8 := Lib.hid (HS8.out.keep hb)
        have HS11 := Lib.hid (HS11.out.keep hb)
        have HS12 := Lib.hid (HS12.out.keep hb)
        have HS14 := Lib.hid hs14
        have HL1 : Hid (w11.heap.size < w13.heap.size) := Lib.hid (by have := hb.size; rw [HZ1.out] at this; omega)
        have HH1 : Hid (w13.heap[w11.heap.size]? = some (.cells #[.int .i64 0, .slice P12 k12 c12] 40)) := Lib.hid ((hb.block _ (by rw [HZ1.out]; omega)).trans HH1.out)
        clear hs14 hb HA HZ1
        have HA := Lib.hid ((Below.refl w13.heap.size w13).alloc (Nat.le_refl _) (.cells #[.int .i64 0, .slice P14 k14 c14] 43))
        have HB14 := Lib.hid (HB13.out.trans (HA.out.mono HB13.out.size))
        have HR3 := Lib.hid (HR3.out.keep HA.out)
        have HR5 := Lib.hid (HR5.out.keep HA.out)
        have HS7 := Lib.hid (HS7.out.keep HA.out)
        have HS8 := Lib.hid (HS8.out.keep HA.out)
        have HS11 := Lib.hid (HS11.out.keep HA.out)
        have HS12 := Lib.hid (HS12.out.keep HA.out)
        have HS14 := Lib.hid (HS14.out.keep HA.out)
        have HH1 := Lib.hid ((HA.out.block _ HL1.out).trans HH1.out)
        have HH2 := Lib.hid (heap_new w13 (.cells #[.int .i64 0, .slice P14 k14 c14] 43))
        have HZ2 := Lib.hid (size_new1 w13 (.cells #[.int .i64 0, .slice P14 k14 c14] 43))
        go_wp2_with fail
        refine (theirs_any HN3.out HR3.out (by omega)).mono ?_
        rintro en w15 ⟨⟨P16, c16, rfl, ho16⟩, hb⟩
        have HB15 := Lib.hid (HB14.out.trans (hb.mono HB14.out.size))
        have HR16 := Lib.hid (ours_row HR3.out ho16 hb)
        have HR5 := Lib.hid (HR5.out.keep hb)
        have HS7 := Lib.hid (HS7.out.keep hb)
        have HS8 := Lib.hid (HS8.out.keep hb)
        have HS11 := Lib.hid (HS11.out.keep hb)
        have HS12 := Lib.hid (HS12.out.keep hb)
        have HS14 := Lib.hid (HS14.out.keep hb)
        have HL2 : Hid (w13.heap.size < w15.heap.size ∧ w11.heap.size < w15.heap.size) := Lib.hid (by have h1 := hb.size; have h2 := HL1.out; rw [HZ2.out] at h1; exact ⟨by omega, by omega⟩)
        have HH1 : Hid (w15.heap[w11.heap.size]? = some (.cells #[.int .i64 0, .slice P12 k12 c12] 40)) := Lib.hid ((hb.block _ (by have h2 := HL1.out; rw [HZ2.out]; omega)).trans HH1.out)
        have HH2 : Hid (w15.heap[w13.heap.size]? = some (.cells #[.int .i64 0, .slice P14 k14 c14] 43)) := Lib.hid ((hb.block _ (by rw [HZ2.out]; omega)).trans HH2.out)
        clear ho16 hb
        go_wp2_with fail
        refine (rsames_yes (by rw [HN3.out]; omega) HR16.out HR5.out (by rw [HL3.out, HL5.out])).mono ?_
        rintro en w17 ⟨rfl, hb⟩
        have HB17 := Lib.hid (HB15.out.trans (hb.mono HB15.out.size))
        have e7 : (convert 22 9 (.slice g7 n7 c7)).run Try.prog w17 = .ok (.string (strOfNums J)) w17 := sl_txt (HS7.out.keep hb)
        have e8 : (convert 22 9 (.slice g8 n8 c8)).run Try.prog w17 = .ok (.string (strOfNums J)) w17 := sl_txt (HS8.out.keep hb)
        have e11 : (convert 22 9 (.slice g11 n11 c11)).run Try.prog w17 = .ok (.string (strOfNums FD)) w17 := sl_txt (HS11.out.keep hb)
        have e9 : (convert 22 9 (.slice P9 k9 cd9)).run Try.prog w17 = .ok (.string (strOfNums FD)) w17 := sl_txt (HS9.out.keep HB17.out)
        have e12 : (convert 22 9 (.slice P12 k12 c12)).run Try.prog w17 = .ok (.string (strOfNums CX)) w17 := sl_txt (HS12.out.keep hb)
        have e14 : (convert 22 9 (.slice P14 k14 c14)).run Try.prog w17 = .ok (.string (strOfNums CX)) w17 := sl_txt (HS14.out.keep hb)
        have hh1 : w17.heap[w11.heap.size]? = some (.cells #[.int .i64 0, .slice P12 k12 c12] 40) := (hb.block _ HL2.out.2).trans HH1.out
        have hh2 : w17.heap[w13.heap.size]? = some (.cells #[.int .i64 0, .slice P14 k14 c14] 43) := (hb.block _ HL2.out.1).trans HH2.out
        have q0 := (cells_at hh1 0).1
        have q1 := (cells_at hh1 1).1
        have r0 := (cells_at hh2 0).1
        have r1 := (cells_at hh2 1).1
        clear hb hh1 hh2
        generalize strOfNums J = S1 at e7 e8
        generalize strOfNums FD = S2 at e11 e9
        generalize strOfNums CX = S3 at e12 e14
        have t1 : (S1.toList == S1.toList) = true := by simp
        have t2 : (S2.toList == S2.toList) = true := by simp
        have t3 : (S3.toList == S3.toList) = true := by simp
        have t4 : (E == E) = true := by simp
        have t5 : (F == F) = true := by simp
        have t6 : (CE == CE) = true := by simp
        have t7 : (ok == ok) = true := by simp
        go_wp2_with fail
        exact bodyPost_ret (v := .bool true) (by simp [results, Try.results3, go_sem]) rfl ⟨rfl, HB17.out⟩
theorem is_any {a0 a4 : Option Addr} {len0 cap0 len4 cap4 : Nat} {z0 z4 : List Int} {v : Value} {l : List (Sct × Value)} {s : ByteArray} (d : Int) {w : World} (h0 : Leb.Came .u8 w a0 len0 cap0 z0) (h1 : ScRow w v l) (hs : s.size ≤ maxLen) (h4 : Leb.Came .u8 w a4 len4 cap4 z4) :
    Calls Try.prog 3 #[.slice a0 len0 cap0, v, .int .i64 d, .string s, .slice a4 len4 cap4] w fun e w' => e = .returned (.bool true) ∧ Below w.heap.size w w' := by
  obtain ⟨p1, p2⟩ := came_sl h0
  obtain ⟨q1, q2⟩ := came_sl h4
  obtain ⟨⟨A, c, rfl, _⟩, _⟩ := id h1
  exact is_law d h0.byt.2.1 p1 p2 rfl h1 h4.byt.2.1 q1 h0.byt.2.2.2 h4.byt.2.2.2 (by unfold maxLen at hs; omega)
end Go.Proofs.Ytkdnhhhgggmapaa.Sec
