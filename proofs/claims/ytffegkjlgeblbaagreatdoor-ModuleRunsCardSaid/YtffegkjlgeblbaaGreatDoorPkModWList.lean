/- ModPX, ModPY, ModWList. -/
import Derived.Test.YtffegkjlgeblbaaGreatDoorPkModPW
import Derived.Test.YtffegkjlgeblbaaGreatDoorPkTypPutM
section
/- The program's writer: put, number, limits. -/
namespace Go.Proofs.YtffegkjlgeblbaaGreatDoor.Mdl
open Go.RowKit Ints Typ Ins
set_option maxRecDepth 100000
set_option maxHeartbeats 4000000
set_option linter.unusedVariables false
theorem sl_far {w : World} {v : Value} {l : List Int} {g : Nat} {P c : Value} (h : Sl w v l) (hg : w.heap[g]? = some (.cells #[P, c] 148 (0, 0))) (hP : ∀ x, P ≠ .int .u8 x) (hc : ∀ x, c ≠ .int .u8 x) (k : Nat) (u : Value) : Sl (w.setCell ⟨g, k, none⟩ u) v l := by
  obtain ⟨A, cp, h1, h2, h3, h4⟩ := h
  refine ⟨A, cp, h1, h2, h3, fun h0 => ?_⟩
  obtain ⟨g', off, e, hB⟩ := h4 h0
  have hne : g' ≠ g := by
    rintro rfl
    have hl : 0 < l.length := by cases l with | nil => exact absurd rfl h0 | cons _ _ => simp
    have q := hB.2.2 0 hl
    rw [Nat.add_zero, (Sec.cells_at hg off).1] at q
    match off, q with
    | 0, q => exact hP _ (Option.some.inj q)
    | 1, q => exact hc _ (Option.some.inj q)
    | n + 2, q => cases q
  refine ⟨g', off, e, by have := hB.1; simp [World.setCell]; exact this, hB.2.1, fun j hj => ?_⟩
  rw [World.cell?_setCell_other (h := by simp)]
  exact hB.2.2 j hj
theorem Puts.no {b b' x : List Int} {bad : Bool} : Puts b bad b' true false x := ⟨⟨fun e => (by cases e), fun e => (by cases e.2.1)⟩, fun e => (by cases e)⟩
theorem Puts.full {b b' x : List Int} {bad ok : Bool} (h : ¬ b.length + x.length ≤ 65536) : Puts b bad b' true ok x := ⟨⟨fun e => (by cases e), fun e => absurd e.2.2 h⟩, fun e => (by cases e)⟩
theorem Puts.bad {b b' x : List Int} {ok : Bool} : Puts b true b' true ok x := ⟨⟨fun e => (by cases e), fun e => (by cases e.1)⟩, fun e => (by cases e)⟩
theorem Puts.yes {b x : List Int} (h : b.length + x.length ≤ 65536) : Puts b false (b ++ x) false true x := ⟨⟨fun _ => ⟨rfl, rfl, h⟩, fun _ => rfl⟩, fun _ => rfl⟩
theorem ws_put {w1 w3 : World} {g m : Nat} {b l : List Int} {bad : Bool} {v1 : Value} {P3 : Option Addr} {c3 : Nat} (h : WS w1 g b bad) (h1 : OwnB w1 (g + 1) v1 b) (ho : OwnB w3 (g + 1) (.slice P3 m c3) (b ++ l)) (hm : (b ++ l).length = m) (hb : Below (g + 1) w1 w3)
    (hk : ∀ k, k < w1.heap.size → some k ≠ v1.ownBlock → w3.heap[k]? = w1.heap[k]?) (hle : m ≤ 65536) : WS (w3.setCell ⟨g, 0, none⟩ (.slice P3 m c3)) g (b ++ l) bad ∧ WFr g w1 (w3.setCell ⟨g, 0, none⟩ (.slice P3 m c3)) := by
  obtain ⟨⟨P, c, q1, q2⟩, _⟩ := id h
  have q3 : w3.heap[g]? = some (.cells #[.slice P b.length c, .bool bad] 148 (0, 0)) := by rw [hb.block g (Nat.lt_succ_self _)]; exact q1
  refine ⟨⟨⟨P3, c3, ?_, ?_⟩, by rw [hm]; exact hle⟩, ?_⟩
  · have := heap_setCell_in (k := 0) q3 (.slice P3 m c3)
    rw [hm]
    simpa using this
  · rw [hm]
    obtain ⟨r1, r2⟩ := ho
    refine ⟨r1, ?_⟩
    rcases r2 with r2 | ⟨g', cap, cur, hv, hB, hc, hr⟩
    · exact .inl r2
    · exact .inr ⟨g', cap, cur, hv, hB, by rw [Below.heap_setCell _ _ _ _ (by simp only; omega)]; exact hc, hr⟩
  · refine WFr.setCell ⟨hb.os, hb.tape, hb.output, hb.size, fun k hk1 => hb.block k (by omega), fun k h2 h3 h4 => hk k h3 fun e => h4 ?_⟩ _ _
    obtain ⟨_, ⟨hv, _⟩ | ⟨g', cap, cur, hv, _, hc, _⟩⟩ := h1
    · rw [hv] at e
      cases e
    · rw [hv] at e
      obtain rfl : k = g' := by simpa [Value.ownBlock] using e
      unfold tyOf
      rw [hc]
theorem wput {w : World} {g : Nat} {b : List Int} {bad : Bool} {v : Value} {l : List Int} (e : Int) (h : WS w g b bad) (hs : Sl w v l) (hl : l.length ≤ 1000000) :
    Calls Tryz.prog 189 #[.pointer (some ⟨g, 0, none⟩), v, .int .i64 e] w (WTold g b bad (e == 0) l w) := by
  have H := Lib.hid h
  have HS := Lib.hid hs
  obtain ⟨⟨P, c, h1, h2⟩, h3⟩ := id h
  obtain ⟨A, cl, rfl, _⟩ := id hs
  obtain ⟨n, hn⟩ : ∃ n, l.length = n := ⟨_, rfl⟩
  obtain ⟨k, hk⟩ : ∃ k, b.length = k := ⟨_, rfl⟩
  have HN := Lib.hid hn
  have HK := Lib.hid hk
  rw [hk] at h1 h2 h3
  rw [hn] at hl HS ⊢
  have H1 := Lib.hid h1
  have HO := Lib.hid h2
  have c0 := (Sec.cells_at h1 0).1
  have c1 := (Sec.cells_at h1 1).1
  have f0 := (Sec.cells_at h1 0).2
  have f1 := (Sec.cells_at h1 1).2
  clear h1 h2 hn hk hs h
  have hw : IntKind.i64.wrap (65536 - (k : Int)) = 65536 - (k : Int) := IntWalk.i64_in _ (by omega)
  obtain ⟨ez, hez⟩ : ∃ r, (e == 0) = r := ⟨_, rfl⟩
  rw [hez]
  by_cases hf : k + n ≤ 65536
  · have t1 : decide ((n : Int) ≤ 65536 - (k : Int)) = true := decide_eq_true (by omega)
    have HF := Lib.hid hf
    have HD := Lib.hid (H.out.set1 (bad || !ez))
    have HSD := Lib.hid (sl_far HS.out H1.out (by intro x e; cases e) (by intro x e; cases e) 1 (.bool (bad || !ez)))
    have HWN := Lib.hid (wneed ez H.out)
    clear hf
    obtain ⟨W1, hW1⟩ : ∃ W, w.setCell ⟨g, 1, none⟩ (.bool (bad || !ez)) = W := ⟨_, rfl⟩
    have HFR : Hid (WFr g w W1) := Lib.hid (by rw [← hW1]; exact (WFr.refl g w).setCell _ _)
    rw [hW1] at HD HSD HWN
    clear hW1
    cases ez <;> (
      go_enter Tryz.func189, Tryz.ntmps189
      go_wp2_with fail
      refine HWN.out.mono ?_
      rintro en w1 ⟨rfl, hw1⟩
      obtain rfl : W1 = w1 := hw1.symm
      obtain ⟨⟨P1, d1, h1, h2⟩, _⟩ := id HD.out
      rw [HK.out] at h1 h2
      have HO1 := Lib.hid h2
      have HH1 := Lib.hid h1
      have c0' := (Sec.cells_at h1 0).1
      clear h1 h2 c0 c1 f0 f1
      go_wp2_with (at_builtin; refine Sec.stop_ ?_)
      refine Lib.hid ?_
      refine wp_byW W1 rfl (.tmp 28) (.tmp 29) rfl (g + 1) _ b l rfl HO1.out A cl ?_ ?_ ?_ ?_ ?_
      focus (rw [HN.out]; rfl)
      focus (rw [HN.out]; exact HSD.out)
      focus (have := HF.out; rw [HN.out, HK.out]; omega)
      focus (exact HD.out.lt)
      intro v3 w3 ho3 hb3 hk3
      obtain ⟨P3, c3, rfl⟩ : ∃ P c, v3 = .slice P (k + n) c := by
        obtain ⟨_, ⟨e1, e2⟩ | ⟨g', cap, cur, e1, _⟩⟩ := id ho3
        · exact ⟨none, 0, by rw [e1]; rw [List.length_append, HN.out, HK.out] at e2; rw [e2]⟩
        · exact ⟨_, _, by rw [e1, List.length_append, HN.out, HK.out]⟩
      have HFIN := Lib.hid (ws_put HD.out HO1.out ho3 (by rw [List.length_append, HN.out, HK.out]) hb3 hk3 HF.out)
      have q3 := (hb3.block g (Nat.lt_succ_self _)).trans HH1.out
      have d0 := (Sec.cells_at q3 0).1
      have d1 := (Sec.cells_at q3 0).2
      clear ho3 hb3 hk3 q3 c0'
      go_wp2_with fail
      exact bodyPost_end (v := .tuple #[]) (by simp [results, Tryz.results189, go_sem]) rfl ⟨_, _, rfl, HFIN.out.1, by first | (cases bad <;> first | exact Puts.yes (by have := HF.out; rw [HN.out, HK.out]; exact this) | exact Puts.bad) | (cases bad <;> exact Puts.no), HFR.out.trans HFIN.out.2⟩)
  · have t1 : decide ((n : Int) ≤ 65536 - (k : Int)) = false := decide_eq_false (by omega)
    have HF : Hid (¬ b.length + l.length ≤ 65536) := Lib.hid (by rw [HN.out, HK.out]; exact hf)
    have HD := Lib.hid (H.out.set1 (bad || !false))
    have HWN := Lib.hid (wneed false H.out)
    clear hf
    obtain ⟨W1, hW1⟩ : ∃ W, w.setCell ⟨g, 1, none⟩ (.bool (bad || !false)) = W := ⟨_, rfl⟩
    have HFR : Hid (WFr g w W1) := Lib.hid (by rw [← hW1]; exact (WFr.refl g w).setCell _ _)
    rw [hW1] at HD HWN
    clear hW1
    cases ez <;> (
      go_enter Tryz.func189, Tryz.ntmps189
      go_wp2_with fail
      refine HWN.out.mono ?_
      rintro en w1 ⟨rfl, hw1⟩
      obtain rfl : W1 = w1 := hw1.symm
      clear c0 c1 f0 f1
      go_wp2_with fail
      exact bodyPost_end (v := .tuple #[]) (by simp [results, Tryz.results189, go_sem]) rfl ⟨_, _, rfl, HD.out, by cases bad <;> exact Puts.full HF.out, HFR.out⟩)
end Go.Proofs.YtffegkjlgeblbaaGreatDoor.Mdl
end

section
/- The program's writer: numbers, limits. -/
namespace Go.Proofs.YtffegkjlgeblbaaGreatDoor.Mdl
open Go.RowKit Ints Typ Ins
set_option maxRecDepth 100000
set_option maxHeartbeats 4000000
set_option linter.unusedVariables false
/-- May a number be? -/
def okU (v : Int) : Bool := decide (0 ≤ v ∧ v ≤ 4294967295)
theorem Puts.after {b b' x : List Int} {bad bad' ok : Bool} (h : Puts b (bad || !ok) b' bad' true x) : Puts b bad b' bad' ok x := by
  cases ok with
  | true => simpa using h
  | false =>
    have hb : bad' = true := by
      cases hq : bad' with
      | true => rfl
      | false =>
        have := (h.iff.1 hq).1
        simp at this
    subst hb
    exact Puts.no
theorem wnum {w : World} {g : Nat} {b : List Int} {bad : Bool} (v : Int) (hv : -9223372036854775808 ≤ v ∧ v ≤ 9223372036854775807) (h : WS w g b bad) :
    Calls Tryz.prog 149 #[.pointer (some ⟨g, 0, none⟩), .int .i64 v] w (WTold g b bad (okU v) (Leb.uB v.toNat) w) := by
  obtain ⟨k, hk, hk2, hk3⟩ : ∃ k : Nat, IntKind.u64.wrap v = (k : Int) ∧ k < 18446744073709551616 ∧ (0 ≤ v → k = v.toNat) := by
    refine ⟨(v % 18446744073709551616).toNat, ?_, by omega, fun h => by omega⟩
    rw [IntKind.wrap_u64]
    omega
  obtain ⟨ok, hok⟩ : ∃ r, okU v = r := ⟨_, rfl⟩
  have HX : Hid (ok = true → k = v.toNat) := Lib.hid (by rw [← hok]; unfold okU; intro h; exact hk3 (of_decide_eq_true h).1)
  have HOK := Lib.hid hok
  have HWN := Lib.hid (wneed ok h)
  have HD := Lib.hid (h.set1 (bad || !ok))
  rw [hok]
  obtain ⟨W1, hW1⟩ : ∃ W, w.setCell ⟨g, 1, none⟩ (.bool (bad || !ok)) = W := ⟨_, rfl⟩
  have HFR : Hid (WFr g w W1) := Lib.hid (by rw [← hW1]; exact (WFr.refl g w).setCell _ _)
  rw [hW1] at HD HWN
  have HU := Lib.hid (Leb.U_any none 0 k [] W1 (Leb.byt_nil _ _ _) (by simp) hk2)
  rw [List.nil_append] at HU
  have HUL : Hid ((Leb.uB k).length ≤ 1000000) := Lib.hid (by rw [Leb.uB_len]; have := Leb.lenU_ten (v := k) hk2; omega)
  clear hW1 h hk3
  have fin : ∀ W3 en W4, WFr g w W3 → WTold g b (bad || !ok) (0 == 0) (Leb.uB k) W3 en W4 → WTold g b bad ok (Leb.uB v.toNat) w en W4 := fun W3 en W4 hf ⟨b', bad', e1, e2, e3, e4⟩ => by
    refine ⟨b', bad', e1, e2, ?_, hf.trans e4⟩
    have := Puts.after (ok := ok) e3
    cases hq : ok with
    | true => rw [hq] at this; rw [← HX.out hq]; exact this
    | false =>
      rw [hq] at this
      have hb : bad' = true := by
        cases hz : bad' with
        | true => rfl
        | false => have := (this.iff.1 hz).2.1; cases this
      subst hb
      exact Puts.no
  have FIN := Lib.hid fin
  clear fin
  have go : ∀ (h0 : (decide (0 ≤ v) = true ∧ decide (v ≤ 4294967295) = ok) ∨ (decide (0 ≤ v) = false ∧ ok = false)), Calls Tryz.prog 149 #[.pointer (some ⟨g, 0, none⟩), .int .i64 v] w (WTold g b bad ok (Leb.uB v.toNat) w) := by
    intro h0
    rcases h0 with ⟨h0, h1⟩ | ⟨h0, h1⟩
    · cases ok <;> (
        go_enter Tryz.func149, Tryz.ntmps149
        go_wp2_with fail
        refine HWN.out.mono ?_
        rintro en w1 ⟨rfl, hw1⟩
        obtain rfl : W1 = w1 := hw1.symm
        go_wp2_with fail
        refine HU.out.mono ?_
        rintro en w2 ⟨v2, rfl, ho2, hb2⟩
        have HO2 := Lib.hid (own_sl ho2)
        have HD2 := Lib.hid (HD.out.keep hb2)
        have HF2 := Lib.hid (HFR.out.trans (WFr.of_below hb2 HD.out.lt))
        clear ho2 hb2
        go_wp2_with fail
        refine (wput 0 HD2.out HO2.out HUL.out).mono ?_
        intro en w3 hq
        have hq2 := FIN.out _ _ _ HF2.out hq
        obtain ⟨b', bad', rfl, e2, e3, e4⟩ := hq2
        have HE := Lib.hid (show WTold g b bad _ (Leb.uB v.toNat) w (.returned (.tuple #[])) w3 from ⟨b', bad', rfl, e2, e3, e4⟩)
        clear hq e2 e3 e4
        go_wp2_with fail
        exact bodyPost_end (v := .tuple #[]) (by simp [results, Tryz.results149, go_sem]) rfl HE.out)
    · subst h1
      go_enter Tryz.func149, Tryz.ntmps149
      go_wp2_with fail
      refine HWN.out.mono ?_
      rintro en w1 ⟨rfl, hw1⟩
      obtain rfl : W1 = w1 := hw1.symm
      go_wp2_with fail
      refine HU.out.mono ?_
      rintro en w2 ⟨v2, rfl, ho2, hb2⟩
      have HO2 := Lib.hid (own_sl ho2)
      have HD2 := Lib.hid (HD.out.keep hb2)
      have HF2 := Lib.hid (HFR.out.trans (WFr.of_below hb2 HD.out.lt))
      clear ho2 hb2
      go_wp2_with fail
      refine (wput 0 HD2.out HO2.out HUL.out).mono ?_
      intro en w3 hq
      have hq2 := FIN.out _ _ _ HF2.out hq
      obtain ⟨b', bad', rfl, e2, e3, e4⟩ := hq2
      have HE := Lib.hid (show WTold g b bad _ (Leb.uB v.toNat) w (.returned (.tuple #[])) w3 from ⟨b', bad', rfl, e2, e3, e4⟩)
      clear hq e2 e3 e4
      go_wp2_with fail
      exact bodyPost_end (v := .tuple #[]) (by simp [results, Tryz.results149, go_sem]) rfl HE.out
  have HOK2 := HOK.out
  unfold okU at HOK2
  by_cases h0 : 0 ≤ v
  · refine go (.inl ⟨decide_eq_true h0, ?_⟩)
    rw [← HOK2]
    simp [h0]
  · refine go (.inr ⟨decide_eq_false h0, ?_⟩)
    rw [← HOK2]
    simp [h0]
theorem wlim {w : World} {g : Nat} {b : List Int} {bad : Bool} (x y : Int) (z : Bool) (h : WS w g b bad) :
    Calls Tryz.prog 152 #[.pointer (some ⟨g, 0, none⟩), .agg #[.int .i64 x, .int .i64 y, .bool z]] w (WTold g b bad (okL x y z) (limB x y z) w) := by
  have HA := Lib.hid ((Below.refl w.heap.size w).alloc (Nat.le_refl _) (.cells #[.int .i64 x, .int .i64 y, .bool z] 61))
  have H := Lib.hid h
  have HC := Lib.hid fun W => putLim_any (.slice none 0 0) [] x y z W (Sl.nil W) (by simp)
  clear h
  unfold PlIs at HC
  cases ho : okL x y z with
  | true =>
    have hL : (limB x y z).length ≤ 1000000 := by
      obtain ⟨o1, o2, o3, o4, _⟩ := okL_iff.1 ho
      unfold limB
      have h1 := Leb.lenU_ten (v := x.toNat) (by omega)
      have h2 := Leb.lenU_ten (v := y.toNat) (by omega)
      cases z <;> simp [Leb.uB_len] <;> omega
    rw [ho] at HC
    simp only [cond_true, List.nil_append] at HC
    have HLL := Lib.hid hL
    clear ho hL
    unfold lv at HC
    go_enter Tryz.func152, Tryz.ntmps152
    go_wp2_with fail
    refine (HC.out _).mono ?_
    rintro en w1 ⟨u, rfl, hs, hb⟩
    obtain ⟨Pu, cu, rfl, _⟩ := id hs
    have HS := Lib.hid hs
    have HB := Lib.hid (HA.out.trans (hb.mono HA.out.size))
    obtain ⟨nu, hnu⟩ : ∃ k, (limB x y z).length = k := ⟨_, rfl⟩
    rw [hnu] at HS ⊢
    clear hs hb hnu
    go_wp2_with fail
    refine (wput 0 (H.out.keep HB.out) HS.out HLL.out).mono ?_
    rintro en w3 ⟨b', bad', rfl, e2, e3, e4⟩
    have HE := Lib.hid (show WTold g b bad true (limB x y z) w (.returned (.tuple #[])) w3 from ⟨b', bad', rfl, e2, e3, (WFr.of_below HB.out H.out.lt).trans e4⟩)
    clear e2 e3 e4
    go_wp2_with fail
    exact bodyPost_end (v := .tuple #[]) (by simp [results, Tryz.results152, go_sem]) rfl HE.out
  | false =>
    rw [ho] at HC
    simp only [cond_false] at HC
    clear ho
    unfold lv at HC
    go_enter Tryz.func152, Tryz.ntmps152
    go_wp2_with fail
    refine (HC.out _).mono ?_
    rintro en w1 ⟨rfl, hb⟩
    have HB := Lib.hid (HA.out.trans (hb.mono HA.out.size))
    clear hb
    go_wp2_with fail
    refine (wput 1 (H.out.keep HB.out) (Sl.nil w1) (by simp)).mono ?_
    rintro en w3 ⟨b', bad', rfl, e2, e3, e4⟩
    have HE := Lib.hid (show WTold g b bad false (limB x y z) w (.returned (.tuple #[])) w3 from ⟨b', bad', rfl, e2, by
      have hb : bad' = true := by
        cases hz : bad' with
        | true => rfl
        | false => have := (e3.iff.1 hz).2.1; exact absurd this (by decide)
      subst hb
      exact Puts.no, (WFr.of_below HB.out H.out.lt).trans e4⟩)
    clear e2 e3 e4
    go_wp2_with fail
    exact bodyPost_end (v := .tuple #[]) (by simp [results, Tryz.results152, go_sem]) rfl HE.out
end Go.Proofs.YtffegkjlgeblbaaGreatDoor.Mdl
end

section
/- The program's lists, laid: walked. -/
namespace Go.Proofs.YtffegkjlgeblbaaGreatDoor.Mdl
open Go.RowKit Ints Typ Ins
set_option maxRecDepth 100000
set_option maxHeartbeats 4000000
set_option linter.unusedVariables false
theorem okU_nat {n : Nat} (h : n ≤ 100000) : okU (n : Int) = true := by unfold okU; exact decide_eq_true ⟨by omega, by omega⟩
theorem all_cut {α : Type} (f : α → Bool) (L : List α) (i : Nat) : L.all f = ((L.take i).all f && (L.drop i).all f) := by
  rw [← List.all_append, List.take_append_drop]
theorem flat_cut {α : Type} (f : α → List Int) (L : List α) (i : Nat) : L.flatMap f = (L.take i).flatMap f ++ (L.drop i).flatMap f := by
  rw [← List.flatMap_append, List.take_append_drop]
theorem all_next {α : Type} (f : α → Bool) {L : List α} {i : Nat} {p : α} (h : L[i]? = some p) : (L.take (i + 1)).all f = ((L.take i).all f && f p) := by
  rw [List.take_add_one, h, List.all_append]
  simp
theorem flat_next {α : Type} (f : α → List Int) {L : List α} {i : Nat} {p : α} (h : L[i]? = some p) : (L.take (i + 1)).flatMap f = (L.take i).flatMap f ++ f p := by
  rw [List.take_add_one, h, List.flatMap_append]
  simp
theorem wlist_Limits (okf : LimT → Bool) (xf : LimT → List Int) (m : Int) (K : Nat) {w0 w : World} {v : Value} {L : List LimT} {g : Nat} {b : List Int} {bad : Bool} (hw : WS w g b bad) (hr : RowG.Row elL w0 v L) (hb : Below w0.heap.size w0 w) (hg : w0.heap.size ≤ g) (hL : L.length ≤ 100000)
    (hrun : ∀ args W, (callFunc K args).run Tryz.prog W = .ok (.enter K args) W)
    (hone : ∀ W b' bad' p, p ∈ L → WS W g b' bad' → Below w0.heap.size w0 W → Calls Tryz.prog K #[.pointer (some ⟨g, 0, none⟩), (fun p : LimT => .agg #[.int .i64 p.1, .int .i64 p.2.1, .bool p.2.2]) p] W (WTold g b' bad' (okf p) (xf p) W)) :
    Calls Tryz.prog 199 #[.pointer (some ⟨g, 0, none⟩), v, .int .i64 m, .func (.func K) #[.pointer (some ⟨g, 0, none⟩)] #[]] w (WTold g b bad (decide ((L.length : Int) ≤ m) && L.all okf) (Leb.uB L.length ++ L.flatMap xf) w) := by
  obtain ⟨P, c, rfl⟩ := row_len hr
  obtain ⟨n, hn⟩ : ∃ n, L.length = n := ⟨_, rfl⟩
  have HN := Lib.hid hn
  rw [hn] at hr hL ⊢
  have HR := Lib.hid hr
  have HBW := Lib.hid hb
  have HG := Lib.hid hg
  have HONE := Lib.hid hone
  obtain ⟨hd, hhd⟩ : ∃ r, decide ((n : Int) ≤ m) = r := ⟨_, rfl⟩
  have HWN := Lib.hid (wneed hd hw)
  have HD := Lib.hid (hw.set1 (bad || !hd))
  obtain ⟨W1, hW1⟩ : ∃ W, w.setCell ⟨g, 1, none⟩ (.bool (bad || !hd)) = W := ⟨_, rfl⟩
  have HFR : Hid (WFr g w W1) := Lib.hid (by rw [← hW1]; exact (WFr.refl g w).setCell _ _)
  rw [hW1] at HD HWN
  rw [hhd]
  obtain ⟨TO, hTO⟩ : ∃ r, (hd && L.all okf) = r := ⟨_, rfl⟩
  obtain ⟨TX, hTX⟩ : ∃ r, Leb.uB n ++ L.flatMap xf = r := ⟨_, rfl⟩
  have HTO := Lib.hid hTO
  have HTX := Lib.hid hTX
  rw [hTO, hTX]
  clear hW1 hw hr hb hg hone hn hTO hTX
  go_enter Tryz.func199, Tryz.ntmps199
  go_wp2_with fail
  refine HWN.out.mono ?_
  rintro en w1 ⟨rfl, hw1⟩
  obtain rfl : W1 = w1 := hw1.symm
  go_wp2_with fail
  refine (wnum (n : Int) (by omega) HD.out).mono ?_
  rintro en w2 ⟨b2, bad2, rfl, hs2, hp2, hf2⟩
  have HS2 := Lib.hid hs2
  have HP2 : Hid (Puts b bad b2 bad2 hd (Leb.uB n)) := Lib.hid (Puts.after (by rw [okU_nat hL, Int.toNat_natCast] at hp2; exact hp2))
  have HF2 := Lib.hid (HFR.out.trans hf2)
  clear hs2 hp2 hf2 hhd
  go_wp2_with fail
  go_loopw [22] (fun i' wr => ∃ (i : Nat) (b' : List Int) (bad' : Bool), i' = .int .i64 (i : Int) ∧ i ≤ n ∧ WS wr g b' bad' ∧ Puts b bad b' bad' (hd && (L.take i).all okf) (Leb.uB n ++ (L.take i).flatMap xf) ∧ WFr g w wr) (fun i' _ => n - (intOf i').toNat)
  case atStart => exact ⟨0, b2, bad2, by go_num, by omega, HS2.out, by simpa using HP2.out, HF2.out⟩
  case round =>
    obtain ⟨i, b', bad', rfl, hi, hs, hp, hf⟩ := hrel
    have HS := Lib.hid hs
    have HP := Lib.hid hp
    have HF := Lib.hid hf
    clear hs hp hf HS2 HP2 HF2
    by_cases hlt : i < n
    · obtain ⟨p, hp⟩ : ∃ p, L[i]? = some p := ⟨_, List.getElem?_eq_getElem (by rw [HN.out]; exact hlt)⟩
      have HBR : Hid (Below w0.heap.size w0 wr) := Lib.hid (HBW.out.trans (HF.out.below.mono HG.out))
      obtain ⟨g1, off, rfl, hg1, hA, hok⟩ := (HR.out.keep HBR.out).at_ hp
      rw [show (elL.s) = 3 from rfl] at hA
      have q0 := hA 0 (.int .i64 p.1) rfl
      have q1 := hA 1 (.int .i64 p.2.1) rfl
      have q2 := hA 2 (.bool p.2.2) rfl
      rw [Nat.add_zero] at q0
      have HPM := Lib.hid (List.mem_of_getElem? hp)
      have HAN := Lib.hid (all_next okf hp)
      have HFN := Lib.hid (flat_next xf hp)
      have i1 : (0 : Int) ≤ (i : Int) := by omega
      have i2 : (i : Int) < (n : Int) := by omega
      have hw1 : IntKind.i64.wrap ((i : Int) + 1) = (i : Int) + 1 := IntWalk.i64_in _ (by omega)
      clear hA hp hok hg1
      obtain ⟨x, y, z⟩ := p
      obtain ⟨W2, hW2⟩ : ∃ W, wr.alloc (.cells #[.int .i64 x, .int .i64 y, .bool z] 61) = W := ⟨_, rfl⟩
      have HA2 : Hid (Below wr.heap.size wr W2) := Lib.hid (by rw [← hW2]; exact (Below.refl _ _).alloc (Nat.le_refl _) _)
      have HS2 : Hid (WS W2 g b' bad') := Lib.hid (HS.out.keep HA2.out)
      have HF2 : Hid (WFr g w W2) := Lib.hid (HF.out.trans (WFr.of_below HA2.out HS.out.lt))
      have HO2 := Lib.hid (HONE.out W2 b' bad' _ HPM.out HS2.out (HBR.out.trans (HA2.out.mono HBR.out.size)))
      rw [← hW2] at HS2 HF2 HO2
      obtain ⟨⟨Pb, cb, h1, _⟩, _⟩ := id HS.out
      have d1 := Lib.cell?_alloc_some (.cells #[.int .i64 x, .int .i64 y, .bool z] 61) (Sec.cells_at h1 1).1
      clear h1 hW2
      cases bad' with
      | true =>
        have HE : Hid (WTold g b bad TO TX w (.returned (.tuple #[])) (wr.alloc (.cells #[.int .i64 x, .int .i64 y, .bool z] 61))) := Lib.hid ⟨b', true, rfl, HS2.out, by
          rw [← HTO.out, ← HTX.out, all_cut okf L i, flat_cut xf L i, ← Bool.and_assoc, ← List.append_assoc]
          exact Puts.stop HP.out, HF2.out⟩
        go_wp2_with fail
        exact bodyPost_ret (P := Tryz.prog) (fn := Tryz.f199) (v := .tuple #[]) (by simp [results, Tryz.results199, go_sem]) rfl HE.out
      | false =>
        go_wp2_with fail
        refine HO2.out.mono ?_
        rintro en w3 ⟨b3, bad3, rfl, hs3, hp3, hf3⟩
        have HS3 := Lib.hid hs3
        have HP3 : Hid (Puts b bad b3 bad3 (hd && (L.take (i + 1)).all okf) (Leb.uB n ++ (L.take (i + 1)).flatMap xf)) := Lib.hid (by
          rw [HAN.out, HFN.out, ← Bool.and_assoc, ← List.append_assoc]
          exact HP.out.trans hp3)
        have HF3 := Lib.hid (HF2.out.trans hf3)
        clear hs3 hp3 hf3
        go_wp2_with fail
        go_roundw
        case rel => exact ⟨i + 1, b3, bad3, by go_num, hlt, HS3.out, HP3.out, HF3.out⟩
        case measure => simp [intOf]; omega
    · have hin : i = n := by omega
      subst hin
      have HE : Hid (WTold g b bad TO TX w (.returned (.tuple #[])) wr) := Lib.hid ⟨b', bad', rfl, HS.out, by
        have := HP.out
        rw [List.take_of_length_le (by rw [HN.out]; exact Nat.le_refl _)] at this
        rw [← HTO.out, ← HTX.out]
        exact this, HF.out⟩
      go_wp2_with fail
      exact bodyPost_end (v := .tuple #[]) (by simp [results, Tryz.results199, go_sem]) rfl HE.out
theorem wsome_Limits (okf : LimT → Bool) (xf : LimT → List Int) (m : Int) (K : Nat) {w0 w : World} {v : Value} {L : List LimT} {g : Nat} {b : List Int} {bad : Bool} (hw : WS w g b bad) (hr : RowG.Row elL w0 v L) (hb : Below w0.heap.size w0 w) (hg : w0.heap.size ≤ g) (hL : L.length ≤ 100000) (h0 : 0 < L.length)
    (hrun : ∀ args W, (callFunc K args).run Tryz.prog W = .ok (.enter K args) W)
    (hone : ∀ W b' bad' p, p ∈ L → WS W g b' bad' → Below w0.heap.size w0 W → Calls Tryz.prog K #[.pointer (some ⟨g, 0, none⟩), (fun p : LimT => .agg #[.int .i64 p.1, .int .i64 p.2.1, .bool p.2.2]) p] W (WTold g b' bad' (okf p) (xf p) W)) :
    Calls Tryz.prog 150 #[.pointer (some ⟨g, 0, none⟩), v, .int .i64 m, .func (.func K) #[.pointer (some ⟨g, 0, none⟩)] #[]] w (WTold g b bad (decide ((L.length : Int) ≤ m) && L.all okf) (Leb.uB L.length ++ L.flatMap xf) w) := by
  have HC := Lib.hid (wlist_Limits okf xf m K hw hr hb hg hL hrun hone)
  obtain ⟨P, c, rfl⟩ := row_len hr
  obtain ⟨TO, hTO⟩ : ∃ r, (decide ((L.length : Int) ≤ m) && L.all okf) = r := ⟨_, rfl⟩
  obtain ⟨TX, hTX⟩ : ∃ r, Leb.uB L.length ++ L.flatMap xf = r := ⟨_, rfl⟩
  rw [hTO, hTX] at HC ⊢
  clear hTO hTX
  obtain ⟨n, hn⟩ : ∃ n, L.length = n := ⟨_, rfl⟩
  rw [hn] at HC h0 ⊢
  have t1 : decide ((0 : Int) < (n : Int)) = true := decide_eq_true (by omega)
  have t2 : decide (0 < n) = true := decide_eq_true h0
  clear hw hr hb hg hL hone hn h0
  go_enter Tryz.func150, Tryz.ntmps150
  go_wp2_with fail
  refine HC.out.mono ?_
  rintro en w3 ⟨b3, bad3, rfl, hs3, hp3, hf3⟩
  have HE : Hid (WTold g b bad TO TX w (.returned (.tuple #[])) w3) := Lib.hid ⟨b3, bad3, rfl, hs3, hp3, hf3⟩
  clear hs3 hp3 hf3
  go_wp2_with fail
  exact bodyPost_end (v := .tuple #[]) (by simp [results, Tryz.results150, go_sem]) rfl HE.out
theorem wnone_FuncType (u : Value) (v : Value) (m : Int) {w : World} {P : Option Addr} {c : Nat} : Calls Tryz.prog 144 #[v, .slice P 0 c, .int .i64 m, u] w fun en w' => en = .returned (.tuple #[]) ∧ w' = w := by
  go_enter Tryz.func144, Tryz.ntmps144
  go_wp2_with fail
  exact bodyPost_end (v := .tuple #[]) (by simp [results, Tryz.results144, go_sem]) rfl ⟨rfl, rfl⟩
theorem wnone_Import (u : Value) (v : Value) (m : Int) {w : World} {P : Option Addr} {c : Nat} : Calls Tryz.prog 146 #[v, .slice P 0 c, .int .i64 m, u] w fun en w' => en = .returned (.tuple #[]) ∧ w' = w := by
  go_enter Tryz.func146, Tryz.ntmps146
  go_wp2_with fail
  exact bodyPost_end (v := .tuple #[]) (by simp [results, Tryz.results146, go_sem]) rfl ⟨rfl, rfl⟩
theorem wnone_int (u : Value) (v : Value) (m : Int) {w : World} {P : Option Addr} {c : Nat} : Calls Tryz.prog 148 #[v, .slice P 0 c, .int .i64 m, u] w fun en w' => en = .returned (.tuple #[]) ∧ w' = w := by
  go_enter Tryz.func148, Tryz.ntmps148
  go_wp2_with fail
  exact bodyPost_end (v := .tuple #[]) (by simp [results, Tryz.results148, go_sem]) rfl ⟨rfl, rfl⟩
theorem wnone_Limits (u : Value) (v : Value) (m : Int) {w : World} {P : Option Addr} {c : Nat} : Calls Tryz.prog 150 #[v, .slice P 0 c, .int .i64 m, u] w fun en w' => en = .returned (.tuple #[]) ∧ w' = w := by
  go_enter Tryz.func150, Tryz.ntmps150
  go_wp2_with fail
  exact bodyPost_end (v := .tuple #[]) (by simp [results, Tryz.results150, go_sem]) rfl ⟨rfl, rfl⟩
theorem wnone_GlobalDef (u : Value) (v : Value) (m : Int) {w : World} {P : Option Addr} {c : Nat} : Calls Tryz.prog 153 #[v, .slice P 0 c, .int .i64 m, u] w fun en w' => en = .returned (.tuple #[]) ∧ w' = w := by
  go_enter Tryz.func153, Tryz.ntmps153
  go_wp2_with fail
  exact bodyPost_end (v := .tuple #[]) (by simp [results, Tryz.results153, go_sem]) rfl ⟨rfl, rfl⟩
theorem wnone_Export (u : Value) (v : Value) (m : Int) {w : World} {P : Option Addr} {c : Nat} : Calls Tryz.prog 155 #[v, .slice P 0 c, .int .i64 m, u] w fun en w' => en = .returned (.tuple #[]) ∧ w' = w := by
  go_enter Tryz.func155, Tryz.ntmps155
  go_wp2_with fail
  exact bodyPost_end (v := .tuple #[]) (by simp [results, Tryz.results155, go_sem]) rfl ⟨rfl, rfl⟩
theorem wnone_Elem (u : Value) (v : Value) (m : Int) {w : World} {P : Option Addr} {c : Nat} : Calls Tryz.prog 158 #[v, .slice P 0 c, .int .i64 m, u] w fun en w' => en = .returned (.tuple #[]) ∧ w' = w := by
  go_enter Tryz.func158, Tryz.ntmps158
  go_wp2_with fail
  exact bodyPost_end (v := .tuple #[]) (by simp [results, Tryz.results158, go_sem]) rfl ⟨rfl, rfl⟩
theorem wnone_Code (u : Value) (v : Value) (m : Int) {w : World} {P : Option Addr} {c : Nat} : Calls Tryz.prog 160 #[v, .slice P 0 c, .int .i64 m, u] w fun en w' => en = .returned (.tuple #[]) ∧ w' = w := by
  go_enter Tryz.func160, Tryz.ntmps160
  go_wp2_with fail
  exact bodyPost_end (v := .tuple #[]) (by simp [results, Tryz.results160, go_sem]) rfl ⟨rfl, rfl⟩
theorem wnone_Data (u : Value) (v : Value) (m : Int) {w : World} {P : Option Addr} {c : Nat} : Calls Tryz.prog 162 #[v, .slice P 0 c, .int .i64 m, u] w fun en w' => en = .returned (.tuple #[]) ∧ w' = w := by
  go_enter Tryz.func162, Tryz.ntmps162
  go_wp2_with fail
  exact bodyPost_end (v := .tuple #[]) (by simp [results, Tryz.results162, go_sem]) rfl ⟨rfl, rfl⟩
theorem wstart_none (v : Value) {w : World} : Calls Tryz.prog 157 #[v, .int .i64 (-1)] w fun en w' => en = .returned (.tuple #[]) ∧ w' = w := by
  go_enter Tryz.func157, Tryz.ntmps157
  go_wp2_with fail
  exact bodyPost_end (v := .tuple #[]) (by simp [results, Tryz.results157, go_sem]) rfl ⟨rfl, rfl⟩
end Go.Proofs.YtffegkjlgeblbaaGreatDoor.Mdl
end
