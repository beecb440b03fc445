/- ModPX, ModPY, ModWA1, ModWO, ModEq. -/
import Derived.Test.YtffegkjlgeblbaaGreatDoorPkModPW
import Derived.Test.YtffegkjlgeblbaaGreatDoorPkTypThere
import Derived.Test.YtffegkjlgeblbaaGreatDoorPkUtfCame
import Derived.Test.YtffegkjlgeblbaaGreatDoorPkTypPutL
import Derived.Test.YtffegkjlgeblbaaGreatDoorPkTypSame
import Derived.Test.YtffegkjlgeblbaaGreatDoorBodPutP
section
/- The program's writer: put, number, limits. -/
namespace Go.Proofs.YtffegkjlgeblbaaGreatDoor.Mdl
open Go.RowKit Ints Typ Ins
set_option maxRecDepth 100000
set_option maxHeartbeats 4000000
set_option linter.unusedVariables false
theorem sl_far {w : World} {v : Value} {l : List Int} {g : Nat} {P c : Value} (h : Sl w v l) (hg : w.heap[g]? = some (.cells #[P, c] 148 (0, 0))) (hP : ∀ x, P ≠ .int .u8 x) (hc : ∀ x, c ≠ .int .u8 x) (k : Nat) (u : Value) : Sl (w.setCell ⟨g, k, none⟩ u) v l := by
  obtain ⟨A, cp, h1, h2, h3, h4⟩ := h
  refine ⟨A, cp, h1, h2, h3, fun h0 => ?_⟩
  obtain ⟨g', off, e, hB⟩ := h4 h0
  have hne : g' ≠ g := by
    rintro rfl
    have hl : 0 < l.length := by cases l with | nil => exact absurd rfl h0 | cons _ _ => simp
    have q := hB.2.2 0 hl
    rw [Nat.add_zero, (Sec.cells_at hg off).1] at q
    match off, q with
    | 0, q => exact hP _ (Option.some.inj q)
    | 1, q => exact hc _ (Option.some.inj q)
    | n + 2, q => cases q
  refine ⟨g', off, e, by have := hB.1; simp [World.setCell]; exact this, hB.2.1, fun j hj => ?_⟩
  rw [World.cell?_setCell_other (h := by simp)]
  exact hB.2.2 j hj
theorem Puts.no {b b' x : List Int} {bad : Bool} : Puts b bad b' true false x := ⟨⟨fun e => (by cases e), fun e => (by cases e.2.1)⟩, fun e => (by cases e)⟩
theorem Puts.full {b b' x : List Int} {bad ok : Bool} (h : ¬ b.length + x.length ≤ 65536) : Puts b bad b' true ok x := ⟨⟨fun e => (by cases e), fun e => absurd e.2.2 h⟩, fun e => (by cases e)⟩
theorem Puts.bad {b b' x : List Int} {ok : Bool} : Puts b true b' true ok x := ⟨⟨fun e => (by cases e), fun e => (by cases e.1)⟩, fun e => (by cases e)⟩
theorem Puts.yes {b x : List Int} (h : b.length + x.length ≤ 65536) : Puts b false (b ++ x) false true x := ⟨⟨fun _ => ⟨rfl, rfl, h⟩, fun _ => rfl⟩, fun _ => rfl⟩
theorem ws_put {w1 w3 : World} {g m : Nat} {b l : List Int} {bad : Bool} {v1 : Value} {P3 : Option Addr} {c3 : Nat} (h : WS w1 g b bad) (h1 : OwnB w1 (g + 1) v1 b) (ho : OwnB w3 (g + 1) (.slice P3 m c3) (b ++ l)) (hm : (b ++ l).length = m) (hb : Below (g + 1) w1 w3)
    (hk : ∀ k, k < w1.heap.size → some k ≠ v1.ownBlock → w3.heap[k]? = w1.heap[k]?) (hle : m ≤ 65536) : WS (w3.setCell ⟨g, 0, none⟩ (.slice P3 m c3)) g (b ++ l) bad ∧ WFr g w1 (w3.setCell ⟨g, 0, none⟩ (.slice P3 m c3)) := by
  obtain ⟨⟨P, c, q1, q2⟩, _⟩ := id h
  have q3 : w3.heap[g]? = some (.cells #[.slice P b.length c, .bool bad] 148 (0, 0)) := by rw [hb.block g (Nat.lt_succ_self _)]; exact q1
  refine ⟨⟨⟨P3, c3, ?_, ?_⟩, by rw [hm]; exact hle⟩, ?_⟩
  · have := heap_setCell_in (k := 0) q3 (.slice P3 m c3)
    rw [hm]
    simpa using this
  · rw [hm]
    obtain ⟨r1, r2⟩ := ho
    refine ⟨r1, ?_⟩
    rcases r2 with r2 | ⟨g', cap, cur, hv, hB, hc, hr⟩
    · exact .inl r2
    · exact .inr ⟨g', cap, cur, hv, hB, by rw [Below.heap_setCell _ _ _ _ (by simp only; omega)]; exact hc, hr⟩
  · refine WFr.setCell ⟨hb.os, hb.tape, hb.output, hb.size, fun k hk1 => hb.block k (by omega), fun k h2 h3 h4 => hk k h3 fun e => h4 ?_⟩ _ _
    obtain ⟨_, ⟨hv, _⟩ | ⟨g', cap, cur, hv, _, hc, _⟩⟩ := h1
    · rw [hv] at e
      cases e
    · rw [hv] at e
      obtain rfl : k = g' := by simpa [Value.ownBlock] using e
      unfold tyOf
      rw [hc]
theorem wputL {w : World} {g : Nat} {b : List Int} {bad : Bool} {v : Value} {l : List Int} (e : Int) (h : WS w g b bad) (hs : Sl w v l) (hl : l.length ≤ 100000000) :
    Calls Tryz.prog 189 #[.pointer (some ⟨g, 0, none⟩), v, .int .i64 e] w (WTold g b bad (e == 0) l w) := by
  have H := Lib.hid h
  have HS := Lib.hid hs
  obtain ⟨⟨P, c, h1, h2⟩, h3⟩ := id h
  obtain ⟨A, cl, rfl, _⟩ := id hs
  obtain ⟨n, hn⟩ : ∃ n, l.length = n := ⟨_, rfl⟩
  obtain ⟨k, hk⟩ : ∃ k, b.length = k := ⟨_, rfl⟩
  have HN := Lib.hid hn
  have HK := Lib.hid hk
  rw [hk] at h1 h2 h3
  rw [hn] at hl HS ⊢
  have H1 := Lib.hid h1
  have HO := Lib.hid h2
  have c0 := (Sec.cells_at h1 0).1
  have c1 := (Sec.cells_at h1 1).1
  have f0 := (Sec.cells_at h1 0).2
  have f1 := (Sec.cells_at h1 1).2
  clear h1 h2 hn hk hs h
  have hw : IntKind.i64.wrap (65536 - (k : Int)) = 65536 - (k : Int) := IntWalk.i64_in _ (by omega)
  obtain ⟨ez, hez⟩ : ∃ r, (e == 0) = r := ⟨_, rfl⟩
  rw [hez]
  by_cases hf : k + n ≤ 65536
  · have t1 : decide ((n : Int) ≤ 65536 - (k : Int)) = true := decide_eq_true (by omega)
    have HF := Lib.hid hf
    have HD := Lib.hid (H.out.set1 (bad || !ez))
    have HSD := Lib.hid (sl_far HS.out H1.out (by intro x e; cases e) (by intro x e; cases e) 1 (.bool (bad || !ez)))
    have HWN := Lib.hid (wneed ez H.out)
    clear hf
    obtain ⟨W1, hW1⟩ : ∃ W, w.setCell ⟨g, 1, none⟩ (.bool (bad || !ez)) = W := ⟨_, rfl⟩
    have HFR : Hid (WFr g w W1) := Lib.hid (by rw [← hW1]; exact (WFr.refl g w).setCell _ _)
    rw [hW1] at HD HSD HWN
    clear hW1
    cases ez <;> (
      go_enter Tryz.func189, Tryz.ntmps189
      go_wp2_with fail
      refine HWN.out.mono ?_
      rintro en w1 ⟨rfl, hw1⟩
      obtain rfl : W1 = w1 := hw1.symm
      obtain ⟨⟨P1, d1, h1, h2⟩, _⟩ := id HD.out
      rw [HK.out] at h1 h2
      have HO1 := Lib.hid h2
      have HH1 := Lib.hid h1
      have c0' := (Sec.cells_at h1 0).1
      clear h1 h2 c0 c1 f0 f1
      go_wp2_with (at_builtin; refine Sec.stop_ ?_)
      refine Lib.hid ?_
      refine wp_byW W1 rfl (.tmp 28) (.tmp 29) rfl (g + 1) _ b l rfl HO1.out A cl ?_ ?_ ?_ ?_ ?_
      focus (rw [HN.out]; rfl)
      focus (rw [HN.out]; exact HSD.out)
      focus (have := HF.out; rw [HN.out, HK.out]; omega)
      focus (exact HD.out.lt)
      intro v3 w3 ho3 hb3 hk3
      obtain ⟨P3, c3, rfl⟩ : ∃ P c, v3 = .slice P (k + n) c := by
        obtain ⟨_, ⟨e1, e2⟩ | ⟨g', cap, cur, e1, _⟩⟩ := id ho3
        · exact ⟨none, 0, by rw [e1]; rw [List.length_append, HN.out, HK.out] at e2; rw [e2]⟩
        · exact ⟨_, _, by rw [e1, List.length_append, HN.out, HK.out]⟩
      have HFIN := Lib.hid (ws_put HD.out HO1.out ho3 (by rw [List.length_append, HN.out, HK.out]) hb3 hk3 HF.out)
      have q3 := (hb3.block g (Nat.lt_succ_self _)).trans HH1.out
      have d0 := (Sec.cells_at q3 0).1
      have d1 := (Sec.cells_at q3 0).2
      clear ho3 hb3 hk3 q3 c0'
      go_wp2_with fail
      exact bodyPost_end (v := .tuple #[]) (by simp [results, Tryz.results189, go_sem]) rfl ⟨_, _, rfl, HFIN.out.1, by first | (cases bad <;> first | exact Puts.yes (by have := HF.out; rw [HN.out, HK.out]; exact this) | exact Puts.bad) | (cases bad <;> exact Puts.no), HFR.out.trans HFIN.out.2⟩)
  · have t1 : decide ((n : Int) ≤ 65536 - (k : Int)) = false := decide_eq_false (by omega)
    have HF : Hid (¬ b.length + l.length ≤ 65536) := Lib.hid (by rw [HN.out, HK.out]; exact hf)
    have HD := Lib.hid (H.out.set1 (bad || !false))
    have HWN := Lib.hid (wneed false H.out)
    clear hf
    obtain ⟨W1, hW1⟩ : ∃ W, w.setCell ⟨g, 1, none⟩ (.bool (bad || !false)) = W := ⟨_, rfl⟩
    have HFR : Hid (WFr g w W1) := Lib.hid (by rw [← hW1]; exact (WFr.refl g w).setCell _ _)
    rw [hW1] at HD HWN
    clear hW1
    cases ez <;> (
      go_enter Tryz.func189, Tryz.ntmps189
      go_wp2_with fail
      refine HWN.out.mono ?_
      rintro en w1 ⟨rfl, hw1⟩
      obtain rfl : W1 = w1 := hw1.symm
      clear c0 c1 f0 f1
      go_wp2_with fail
      exact bodyPost_end (v := .tuple #[]) (by simp [results, Tryz.results189, go_sem]) rfl ⟨_, _, rfl, HD.out, by cases bad <;> exact Puts.full HF.out, HFR.out⟩)
theorem wput {w : World} {g : Nat} {b : List Int} {bad : Bool} {v : Value} {l : List Int} (e : Int) (h : WS w g b bad) (hs : Sl w v l) (hl : l.length ≤ 1000000) :
    Calls Tryz.prog 189 #[.pointer (some ⟨g, 0, none⟩), v, .int .i64 e] w (WTold g b bad (e == 0) l w) := wputL e h hs (by omega)
end Go.Proofs.YtffegkjlgeblbaaGreatDoor.Mdl
end

section
/- The program's writer: numbers, limits. -/
namespace Go.Proofs.YtffegkjlgeblbaaGreatDoor.Mdl
open Go.RowKit Ints Typ Ins
set_option maxRecDepth 100000
set_option maxHeartbeats 4000000
set_option linter.unusedVariables false
def okU (v : Int) : Bool := decide (0 ≤ v ∧ v ≤ 4294967295)
theorem Puts.after {b b' x : List Int} {bad bad' ok : Bool} (h : Puts b (bad || !ok) b' bad' true x) : Puts b bad b' bad' ok x := by
  cases ok with
  | true => simpa using h
  | false =>
    have hb : bad' = true := by
      cases hq : bad' with
      | true => rfl
      | false =>
        have := (h.iff.1 hq).1
        simp at this
    subst hb
    exact Puts.no
theorem wnumA {w : World} {g : Nat} {b : List Int} {bad : Bool} (v : Int) (h : WS w g b bad) :
    Calls Tryz.prog 149 #[.pointer (some ⟨g, 0, none⟩), .int .i64 v] w (WTold g b bad (okU v) (Leb.uB v.toNat) w) := by
  obtain ⟨k, hk, hk2, hk3⟩ : ∃ k : Nat, IntKind.u64.wrap v = (k : Int) ∧ k < 18446744073709551616 ∧ (0 ≤ v ∧ v ≤ 4294967295 → k = v.toNat) := by
    refine ⟨(v % 18446744073709551616).toNat, ?_, by omega, fun h => by omega⟩
    rw [IntKind.wrap_u64]
    omega
  obtain ⟨ok, hok⟩ : ∃ r, okU v = r := ⟨_, rfl⟩
  have HX : Hid (ok = true → k = v.toNat) := Lib.hid (by rw [← hok]; unfold okU; intro h; exact hk3 (of_decide_eq_true h))
  have HOK := Lib.hid hok
  have HWN := Lib.hid (wneed ok h)
  have HD := Lib.hid (h.set1 (bad || !ok))
  rw [hok]
  obtain ⟨W1, hW1⟩ : ∃ W, w.setCell ⟨g, 1, none⟩ (.bool (bad || !ok)) = W := ⟨_, rfl⟩
  have HFR : Hid (WFr g w W1) := Lib.hid (by rw [← hW1]; exact (WFr.refl g w).setCell _ _)
  rw [hW1] at HD HWN
  have HU := Lib.hid (Leb.U_any none 0 k [] W1 (Leb.byt_nil _ _ _) (by simp) hk2)
  rw [List.nil_append] at HU
  have HUL : Hid ((Leb.uB k).length ≤ 1000000) := Lib.hid (by rw [Leb.uB_len]; have := Leb.lenU_ten (v := k) hk2; omega)
  clear hW1 h hk3
  have fin : ∀ W3 en W4, WFr g w W3 → WTold g b (bad || !ok) (0 == 0) (Leb.uB k) W3 en W4 → WTold g b bad ok (Leb.uB v.toNat) w en W4 := fun W3 en W4 hf ⟨b', bad', e1, e2, e3, e4⟩ => by
    refine ⟨b', bad', e1, e2, ?_, hf.trans e4⟩
    have := Puts.after (ok := ok) e3
    cases hq : ok with
    | true => rw [hq] at this; rw [← HX.out hq]; exact this
    | false =>
      rw [hq] at this
      have hb : bad' = true := by
        cases hz : bad' with
        | true => rfl
        | false => have := (this.iff.1 hz).2.1; cases this
      subst hb
      exact Puts.no
  have FIN := Lib.hid fin
  clear fin
  have go : ∀ (h0 : (decide (0 ≤ v) = true ∧ decide (v ≤ 4294967295) = ok) ∨ (decide (0 ≤ v) = false ∧ ok = false)), Calls Tryz.prog 149 #[.pointer (some ⟨g, 0, none⟩), .int .i64 v] w (WTold g b bad ok (Leb.uB v.toNat) w) := by
    intro h0
    rcases h0 with ⟨h0, h1⟩ | ⟨h0, h1⟩
    · cases ok <;> (
        go_enter Tryz.func149, Tryz.ntmps149
        go_wp2_with fail
        refine HWN.out.mono ?_
        rintro en w1 ⟨rfl, hw1⟩
        obtain rfl : W1 = w1 := hw1.symm
        go_wp2_with fail
        refine HU.out.mono ?_
        rintro en w2 ⟨v2, rfl, ho2, hb2⟩
        have HO2 := Lib.hid (own_sl ho2)
        have HD2 := Lib.hid (HD.out.keep hb2)
        have HF2 := Lib.hid (HFR.out.trans (WFr.of_below hb2 HD.out.lt))
        clear ho2 hb2
        go_wp2_with fail
        refine (wput 0 HD2.out HO2.out HUL.out).mono ?_
        intro en w3 hq
        have hq2 := FIN.out _ _ _ HF2.out hq
        obtain ⟨b', bad', rfl, e2, e3, e4⟩ := hq2
        have HE := Lib.hid (show WTold g b bad _ (Leb.uB v.toNat) w (.returned (.tuple #[])) w3 from ⟨b', bad', rfl, e2, e3, e4⟩)
        clear hq e2 e3 e4
        go_wp2_with fail
        exact bodyPost_end (v := .tuple #[]) (by simp [results, Tryz.results149, go_sem]) rfl HE.out)
    · subst h1
      go_enter Tryz.func149, Tryz.ntmps149
      go_wp2_with fail
      refine HWN.out.mono ?_
      rintro en w1 ⟨rfl, hw1⟩
      obtain rfl : W1 = w1 := hw1.symm
      go_wp2_with fail
      refine HU.out.mono ?_
      rintro en w2 ⟨v2, rfl, ho2, hb2⟩
      have HO2 := Lib.hid (own_sl ho2)
      have HD2 := Lib.hid (HD.out.keep hb2)
      have HF2 := Lib.hid (HFR.out.trans (WFr.of_below hb2 HD.out.lt))
      clear ho2 hb2
      go_wp2_with fail
      refine (wput 0 HD2.out HO2.out HUL.out).mono ?_
      intro en w3 hq
      have hq2 := FIN.out _ _ _ HF2.out hq
      obtain ⟨b', bad', rfl, e2, e3, e4⟩ := hq2
      have HE := Lib.hid (show WTold g b bad _ (Leb.uB v.toNat) w (.returned (.tuple #[])) w3 from ⟨b', bad', rfl, e2, e3, e4⟩)
      clear hq e2 e3 e4
      go_wp2_with fail
      exact bodyPost_end (v := .tuple #[]) (by simp [results, Tryz.results149, go_sem]) rfl HE.out
  have HOK2 := HOK.out
  unfold okU at HOK2
  by_cases h0 : 0 ≤ v
  · refine go (.inl ⟨decide_eq_true h0, ?_⟩)
    rw [← HOK2]
    simp [h0]
  · refine go (.inr ⟨decide_eq_false h0, ?_⟩)
    rw [← HOK2]
    simp [h0]
theorem wnum {w : World} {g : Nat} {b : List Int} {bad : Bool} (v : Int) (hv : -9223372036854775808 ≤ v ∧ v ≤ 9223372036854775807) (h : WS w g b bad) :
    Calls Tryz.prog 149 #[.pointer (some ⟨g, 0, none⟩), .int .i64 v] w (WTold g b bad (okU v) (Leb.uB v.toNat) w) := wnumA v h
theorem wlim {w : World} {g : Nat} {b : List Int} {bad : Bool} (x y : Int) (z : Bool) (h : WS w g b bad) :
    Calls Tryz.prog 152 #[.pointer (some ⟨g, 0, none⟩), .agg #[.int .i64 x, .int .i64 y, .bool z]] w (WTold g b bad (okL x y z) (limB x y z) w) := by
  have HA := Lib.hid ((Below.refl w.heap.size w).alloc (Nat.le_refl _) (.cells #[.int .i64 x, .int .i64 y, .bool z] 61))
  have H := Lib.hid h
  have HC := Lib.hid fun W => putLim_any (.slice none 0 0) [] x y z W (Sl.nil W) (by simp)
  clear h
  unfold PlIs at HC
  cases ho : okL x y z with
  | true =>
    have hL : (limB x y z).length ≤ 1000000 := by
      obtain ⟨o1, o2, o3, o4, _⟩ := okL_iff.1 ho
      unfold limB
      have h1 := Leb.lenU_ten (v := x.toNat) (by omega)
      have h2 := Leb.lenU_ten (v := y.toNat) (by omega)
      cases z <;> simp [Leb.uB_len] <;> omega
    rw [ho] at HC
    simp only [cond_true, List.nil_append] at HC
    have HLL := Lib.hid hL
    clear ho hL
    unfold lv at HC
    go_enter Tryz.func152, Tryz.ntmps152
    go_wp2_with fail
    refine (HC.out _).mono ?_
    rintro en w1 ⟨u, rfl, hs, hb⟩
    obtain ⟨Pu, cu, rfl, _⟩ := id hs
    have HS := Lib.hid hs
    have HB := Lib.hid (HA.out.trans (hb.mono HA.out.size))
    obtain ⟨nu, hnu⟩ : ∃ k, (limB x y z).length = k := ⟨_, rfl⟩
    rw [hnu] at HS ⊢
    clear hs hb hnu
    go_wp2_with fail
    refine (wput 0 (H.out.keep HB.out) HS.out HLL.out).mono ?_
    rintro en w3 ⟨b', bad', rfl, e2, e3, e4⟩
    have HE := Lib.hid (show WTold g b bad true (limB x y z) w (.returned (.tuple #[])) w3 from ⟨b', bad', rfl, e2, e3, (WFr.of_below HB.out H.out.lt).trans e4⟩)
    clear e2 e3 e4
    go_wp2_with fail
    exact bodyPost_end (v := .tuple #[]) (by simp [results, Tryz.results152, go_sem]) rfl HE.out
  | false =>
    rw [ho] at HC
    simp only [cond_false] at HC
    clear ho
    unfold lv at HC
    go_enter Tryz.func152, Tryz.ntmps152
    go_wp2_with fail
    refine (HC.out _).mono ?_
    rintro en w1 ⟨rfl, hb⟩
    have HB := Lib.hid (HA.out.trans (hb.mono HA.out.size))
    clear hb
    go_wp2_with fail
    refine (wput 1 (H.out.keep HB.out) (Sl.nil w1) (by simp)).mono ?_
    rintro en w3 ⟨b', bad', rfl, e2, e3, e4⟩
    have HE := Lib.hid (show WTold g b bad false (limB x y z) w (.returned (.tuple #[])) w3 from ⟨b', bad', rfl, e2, by
      have hb : bad' = true := by
        cases hz : bad' with
        | true => rfl
        | false => have := (e3.iff.1 hz).2.1; exact absurd this (by decide)
      subst hb
      exact Puts.no, (WFr.of_below HB.out H.out.lt).trans e4⟩)
    clear e2 e3 e4
    go_wp2_with fail
    exact bodyPost_end (v := .tuple #[]) (by simp [results, Tryz.results152, go_sem]) rfl HE.out
end Go.Proofs.YtffegkjlgeblbaaGreatDoor.Mdl
end

section
/- The program's writer: names, types of values, flags, kinds, tables, functions' types. -/
namespace Go.Proofs.YtffegkjlgeblbaaGreatDoor.Mdl
open Go.RowKit Ints Typ Ins
set_option maxRecDepth 100000
set_option maxHeartbeats 4000000
set_option linter.unusedVariables false
theorem WTold.bad {g : Nat} {b : List Int} {bad : Bool} {x y : List Int} {w w' : World} {en : Ending} (h : WTold g b bad false y w en w') : WTold g b bad false x w en w' := by
  obtain ⟨b', bad', e1, e2, e3, e4⟩ := h
  refine ⟨b', bad', e1, e2, ?_, e4⟩
  have hb : bad' = true := by
    cases hz : bad' with
    | true => rfl
    | false => have := (e3.iff.1 hz).2.1; cases this
  subst hb
  exact Puts.no
theorem WTold.low {g : Nat} {b : List Int} {bad ok : Bool} {x : List Int} {w w1 w' : World} {en : Ending} (f : WFr g w w1) (h : WTold g b bad ok x w1 en w') : WTold g b bad ok x w en w' := by
  obtain ⟨b', bad', e1, e2, e3, e4⟩ := h
  exact ⟨b', bad', e1, e2, e3, f.trans e4⟩
theorem WTold.next {g : Nat} {b b1 : List Int} {bad bad1 o1 o2 : Bool} {x1 x2 : List Int} {w w1 w' : World} {en : Ending} (p : Puts b bad b1 bad1 o1 x1) (f : WFr g w w1) (h : WTold g b1 bad1 o2 x2 w1 en w') : WTold g b bad (o1 && o2) (x1 ++ x2) w en w' := by
  obtain ⟨b', bad', e1, e2, e3, e4⟩ := h
  exact ⟨b', bad', e1, e2, p.trans e3, f.trans e4⟩
theorem Puts.need {b : List Int} (bad ok : Bool) (hb : b.length ≤ 65536) : Puts b bad b (bad || !ok) ok [] := by
  refine ⟨⟨fun e => ?_, fun ⟨e1, e2, _⟩ => by rw [e1, e2]; rfl⟩, fun _ => by simp⟩
  cases bad <;> cases ok <;> simp_all
noncomputable def okN (s : ByteArray) : Bool := decide (Utf.fltE (Utf.bl s) = 0)
noncomputable def nmB (s : ByteArray) : List Int := Leb.uB (Utf.bl s).length ++ Utf.bl s
theorem wname {w : World} {g : Nat} {b : List Int} {bad : Bool} (s : ByteArray) (hz : s.size ≤ 1000) (h : WS w g b bad) :
    Calls Tryz.prog 194 #[.pointer (some ⟨g, 0, none⟩), .string s] w (WTold g b bad (okN s) (nmB s) w) := by
  have H := Lib.hid h
  have HC := Lib.hid (Utf.play_any (.slice none 0 0) [] s w (Sl.nil w) (by simp) hz)
  have HL : Hid ((nmB s).length ≤ 1000000) := Lib.hid (by
    have h1 := Leb.lenU_ten (v := (Utf.bl s).length) (by rw [Utf.bl_len]; omega)
    unfold nmB
    rw [List.length_append, Leb.uB_len, Utf.bl_len] at *
    omega)
  obtain ⟨ok, hok⟩ : ∃ r, okN s = r := ⟨_, rfl⟩
  rw [hok]
  have HOK := Lib.hid hok
  clear h hz hok
  unfold Utf.LyEnds at HC
  go_enter Tryz.func194, Tryz.ntmps194
  go_wp2_with fail
  refine HC.out.mono ?_
  rintro en w1 ⟨⟨he, u, rfl, ho⟩ | ⟨he, rfl⟩, hb⟩
  · have hs : Sl w1 u (nmB s) := by have := own_sl ho; simpa [nmB] using this
    have hk : ok = true := by rw [← HOK.out]; exact decide_eq_true he
    subst hk
    obtain ⟨Pu, cu, rfl, _⟩ := id hs
    have HS := Lib.hid hs
    have HB := Lib.hid hb
    obtain ⟨nu, hnu⟩ : ∃ k, (nmB s).length = k := ⟨_, rfl⟩
    rw [hnu] at HS ⊢
    clear hs hb hnu ho he
    go_wp2_with fail
    refine (wput 0 (H.out.keep HB.out) HS.out HL.out).mono ?_
    rintro en w3 ⟨b', bad', rfl, e2, e3, e4⟩
    have HE := Lib.hid (show WTold g b bad true (nmB s) w (.returned (.tuple #[])) w3 from ⟨b', bad', rfl, e2, e3, (WFr.of_below HB.out H.out.lt).trans e4⟩)
    clear e2 e3 e4
    go_wp2_with fail
    exact bodyPost_end (v := .tuple #[]) (by simp [results, Tryz.results194, go_sem]) rfl HE.out
  · have hk : ok = false := by rw [← HOK.out]; exact decide_eq_false he
    subst hk
    have HNE := Lib.hid he
    have HB := Lib.hid hb
    obtain ⟨E, hE⟩ : ∃ e, Utf.fltE (Utf.bl s) = e := ⟨_, rfl⟩
    rw [hE] at HNE ⊢
    have hz : (E == 0) = false := by simpa using HNE.out
    have HZ := Lib.hid hz
    clear hb he hE hz
    go_wp2_with fail
    refine (wput E (H.out.keep HB.out) (Sl.nil w1) (by simp)).mono ?_
    rintro en w3 hq
    rw [HZ.out] at hq
    have HE := Lib.hid (WTold.low (WFr.of_below HB.out H.out.lt) (WTold.bad (x := nmB s) hq))
    obtain ⟨b', bad', rfl, _, _, _⟩ := hq
    go_wp2_with fail
    exact bodyPost_end (v := .tuple #[]) (by simp [results, Tryz.results194, go_sem]) rfl HE.out
end Go.Proofs.YtffegkjlgeblbaaGreatDoor.Mdl
end

section
/- An import with just what its kind has, by the program; and whether two are one: walked. -/
namespace Go.Proofs.YtffegkjlgeblbaaGreatDoor.Mdl
open Go.RowKit Ints Typ Ins
set_option maxRecDepth 100000
set_option maxHeartbeats 4000000
set_option linter.unusedVariables false
theorem below_dN {B : Nat} {a w : World} (h : Below B a w) (n : Nat) : Below B a (w.drewN n) := ⟨h.os, h.tape, h.output, h.size, h.block⟩
theorem own_k0 (md nm : ByteArray) (kind ty lx ly : Int) (lz : Bool) (val : Int) (mt : Bool) (w : World) (h0 : (kind == 0) = true) (h1 : (kind == 1) = false) (h2 : (kind == 2) = false) (h3 : (kind == 3) = false) :
    Calls Tryz.prog 193 #[.agg #[.string md, .string nm, .int .i64 kind, .int .i64 ty, .int .i64 lx, .int .i64 ly, .bool lz, .int .u8 val, .bool mt]] w fun en w' => en = .returned (.agg #[.string md, .string nm, .int .i64 kind, .int .i64 ty, .int .i64 0, .int .i64 0, .bool false, .int .u8 0, .bool false]) ∧ Below w.heap.size w w' := by
  have HB1 := Lib.hid ((Below.refl w.heap.size w).alloc (Nat.le_refl _) (.cells #[.string md, .string nm, .int .i64 kind, .int .i64 ty, .int .i64 lx, .int .i64 ly, .bool lz, .int .u8 val, .bool mt] 63))
  go_enter Tryz.func193, Tryz.ntmps193
  go_wp2_with fail
  refine bodyPost_ret (v := .agg #[.string md, .string nm, .int .i64 kind, .int .i64 ty, .int .i64 0, .int .i64 0, .bool false, .int .u8 0, .bool false]) (by simp [results, Tryz.results193, go_sem]) rfl ⟨rfl, ?_⟩
  repeat (first | exact Below.refl _ _ | exact HB1.out | refine below_dN ?_ _ | refine below_d1 ?_ | refine below_set ?_ (by first | (simp; done) | (simp; omega)) _ | refine Below.alloc ?_ (by first | (simp; done) | (simp; omega)) _)
theorem own_k1 (md nm : ByteArray) (kind ty lx ly : Int) (lz : Bool) (val : Int) (mt : Bool) (w : World) (h0 : (kind == 0) = false) (h1 : (kind == 1) = true) (h2 : (kind == 2) = false) (h3 : (kind == 3) = false) :
    Calls Tryz.prog 193 #[.agg #[.string md, .string nm, .int .i64 kind, .int .i64 ty, .int .i64 lx, .int .i64 ly, .bool lz, .int .u8 val, .bool mt]] w fun en w' => en = .returned (.agg #[.string md, .string nm, .int .i64 kind, .int .i64 0, .int .i64 lx, .int .i64 ly, .bool lz, .int .u8 0, .bool false]) ∧ Below w.heap.size w w' := by
  have HB1 := Lib.hid ((Below.refl w.heap.size w).alloc (Nat.le_refl _) (.cells #[.string md, .string nm, .int .i64 kind, .int .i64 ty, .int .i64 lx, .int .i64 ly, .bool lz, .int .u8 val, .bool mt] 63))
  go_enter Tryz.func193, Tryz.ntmps193
  go_wp2_with fail
  refine bodyPost_ret (v := .agg #[.string md, .string nm, .int .i64 kind, .int .i64 0, .int .i64 lx, .int .i64 ly, .bool lz, .int .u8 0, .bool false]) (by simp [results, Tryz.results193, go_sem]) rfl ⟨rfl, ?_⟩
  repeat (first | exact Below.refl _ _ | exact HB1.out | refine below_dN ?_ _ | refine below_d1 ?_ | refine below_set ?_ (by first | (simp; done) | (simp; omega)) _ | refine Below.alloc ?_ (by first | (simp; done) | (simp; omega)) _)
theorem own_k2 (md nm : ByteArray) (kind ty lx ly : Int) (lz : Bool) (val : Int) (mt : Bool) (w : World) (h0 : (kind == 0) = false) (h1 : (kind == 1) = false) (h2 : (kind == 2) = true) (h3 : (kind == 3) = false) :
    Calls Tryz.prog 193 #[.agg #[.string md, .string nm, .int .i64 kind, .int .i64 ty, .int .i64 lx, .int .i64 ly, .bool lz, .int .u8 val, .bool mt]] w fun en w' => en = .returned (.agg #[.string md, .string nm, .int .i64 kind, .int .i64 0, .int .i64 lx, .int .i64 ly, .bool lz, .int .u8 0, .bool false]) ∧ Below w.heap.size w w' := by
  have HB1 := Lib.hid ((Below.refl w.heap.size w).alloc (Nat.le_refl _) (.cells #[.string md, .string nm, .int .i64 kind, .int .i64 ty, .int .i64 lx, .int .i64 ly, .bool lz, .int .u8 val, .bool mt] 63))
  go_enter Tryz.func193, Tryz.ntmps193
  go_wp2_with fail
  refine bodyPost_ret (v := .agg #[.string md, .string nm, .int .i64 kind, .int .i64 0, .int .i64 lx, .int .i64 ly, .bool lz, .int .u8 0, .bool false]) (by simp [results, Tryz.results193, go_sem]) rfl ⟨rfl, ?_⟩
  repeat (first | exact Below.refl _ _ | exact HB1.out | refine below_dN ?_ _ | refine below_d1 ?_ | refine below_set ?_ (by first | (simp; done) | (simp; omega)) _ | refine Below.alloc ?_ (by first | (simp; done) | (simp; omega)) _)
theorem own_k4 (md nm : ByteArray) (kind ty lx ly : Int) (lz : Bool) (val : Int) (mt : Bool) (w : World) (h0 : (kind == 0) = false) (h1 : (kind == 1) = false) (h2 : (kind == 2) = false) (h3 : (kind == 3) = false) :
    Calls Tryz.prog 193 #[.agg #[.string md, .string nm, .int .i64 kind, .int .i64 ty, .int .i64 lx, .int .i64 ly, .bool lz, .int .u8 val, .bool mt]] w fun en w' => en = .returned (.agg #[.string md, .string nm, .int .i64 kind, .int .i64 0, .int .i64 0, .int .i64 0, .bool false, .int .u8 0, .bool false]) ∧ Below w.heap.size w w' := by
  have HB1 := Lib.hid ((Below.refl w.heap.size w).alloc (Nat.le_refl _) (.cells #[.string md, .string nm, .int .i64 kind, .int .i64 ty, .int .i64 lx, .int .i64 ly, .bool lz, .int .u8 val, .bool mt] 63))
  go_enter Tryz.func193, Tryz.ntmps193
  go_wp2_with fail
  refine bodyPost_ret (v := .agg #[.string md, .string nm, .int .i64 kind, .int .i64 0, .int .i64 0, .int .i64 0, .bool false, .int .u8 0, .bool false]) (by simp [results, Tryz.results193, go_sem]) rfl ⟨rfl, ?_⟩
  repeat (first | exact Below.refl _ _ | exact HB1.out | refine below_dN ?_ _ | refine below_d1 ?_ | refine below_set ?_ (by first | (simp; done) | (simp; omega)) _ | refine Below.alloc ?_ (by first | (simp; done) | (simp; omega)) _)
theorem own_k3 (md nm : ByteArray) (kind ty lx ly : Int) (lz : Bool) (val : Int) (mt : Bool) (w : World) (h0 : (kind == 0) = false) (h1 : (kind == 1) = false) (h2 : (kind == 2) = false) (h3 : (kind == 3) = true) :
    Calls Tryz.prog 193 #[.agg #[.string md, .string nm, .int .i64 kind, .int .i64 ty, .int .i64 lx, .int .i64 ly, .bool lz, .int .u8 val, .bool mt]] w fun en w' => en = .returned (.agg #[.string md, .string nm, .int .i64 kind, .int .i64 0, .int .i64 0, .int .i64 0, .bool false, .int .u8 val, .bool mt]) ∧ Below w.heap.size w w' := by
  have HB1 := Lib.hid ((Below.refl w.heap.size w).alloc (Nat.le_refl _) (.cells #[.string md, .string nm, .int .i64 kind, .int .i64 ty, .int .i64 lx, .int .i64 ly, .bool lz, .int .u8 val, .bool mt] 63))
  go_enter Tryz.func193, Tryz.ntmps193
  go_wp2_with fail
  go_region
  all_goals (
    go_wp2_with fail
    refine bodyPost_ret (v := .agg #[.string md, .string nm, .int .i64 kind, .int .i64 0, .int .i64 0, .int .i64 0, .bool false, .int .u8 val, .bool mt]) (by simp [results, Tryz.results193, go_sem]) rfl ⟨rfl, ?_⟩
    repeat (first | exact Below.refl _ _ | exact HB1.out | refine below_dN ?_ _ | refine below_d1 ?_ | refine below_set ?_ (by first | (simp; done) | (simp; omega)) _ | refine Below.alloc ?_ (by first | (simp; done) | (simp; omega)) _))
end Go.Proofs.YtffegkjlgeblbaaGreatDoor.Mdl
end

section
/- Two structs compared: imports, limits, exports. -/
namespace Go.Proofs.YtffegkjlgeblbaaGreatDoor.Mdl
open Go.RowKit Ints Typ Ins
set_option maxRecDepth 100000
set_option maxHeartbeats 4000000
set_option linter.unusedVariables false
set_option linter.unusedSimpArgs false
theorem eq_imp (md nm : ByteArray) (kind ty lx ly : Int) (lz : Bool) (val : Int) (mt : Bool) (md' nm' : ByteArray) (kind' ty' lx' ly' : Int) (lz' : Bool) (val' : Int) (mt' : Bool) (x y : Operand) (W : World) : (do eqGuard BinOp.eql 63 x y (.agg #[.string md, .string nm, .int .i64 kind, .int .i64 ty, .int .i64 lx, .int .i64 ly, .bool lz, .int .u8 val, .bool mt]) (.agg #[.string md', .string nm', .int .i64 kind', .int .i64 ty', .int .i64 lx', .int .i64 ly', .bool lz', .int .u8 val', .bool mt']); binOp BinOp.eql 63 (.agg #[.string md, .string nm, .int .i64 kind, .int .i64 ty, .int .i64 lx, .int .i64 ly, .bool lz, .int .u8 val, .bool mt]) (.agg #[.string md', .string nm', .int .i64 kind', .int .i64 ty', .int .i64 lx', .int .i64 ly', .bool lz', .int .u8 val', .bool mt']) : Sem Value).run Tryz.prog W = .ok (.bool ((decide (md.toList = md'.toList) && decide (nm.toList = nm'.toList) && decide (kind = kind') && decide (ty = ty') && decide (lx = lx') && decide (ly = ly') && decide (lz = lz') && decide (val = val') && decide (mt = mt')))) W := by
  go_simp
  by_cases h0 : md.toList = md'.toList
  · skip
    by_cases h1 : nm.toList = nm'.toList
    · skip
      by_cases h2 : kind = kind'
      · skip
        by_cases h3 : ty = ty'
        · skip
          by_cases h4 : lx = lx'
          · skip
            by_cases h5 : ly = ly'
            · skip
              by_cases h6 : lz = lz'
              · skip
                by_cases h7 : val = val'
                · skip
                  by_cases h8 : mt = mt'
                  · skip
                    simp [h0, h1, h2, h3, h4, h5, h6, h7, h8]
                  · simp [h0, h1, h2, h3, h4, h5, h6, h7, h8]
                · simp [h0, h1, h2, h3, h4, h5, h6, h7]
              · simp [h0, h1, h2, h3, h4, h5, h6]
            · simp [h0, h1, h2, h3, h4, h5]
          · simp [h0, h1, h2, h3, h4]
        · simp [h0, h1, h2, h3]
      · simp [h0, h1, h2]
    · simp [h0, h1]
  · simp [h0]
theorem ne_imp (md nm : ByteArray) (kind ty lx ly : Int) (lz : Bool) (val : Int) (mt : Bool) (md' nm' : ByteArray) (kind' ty' lx' ly' : Int) (lz' : Bool) (val' : Int) (mt' : Bool) (x y : Operand) (W : World) : (do eqGuard BinOp.neq 63 x y (.agg #[.string md, .string nm, .int .i64 kind, .int .i64 ty, .int .i64 lx, .int .i64 ly, .bool lz, .int .u8 val, .bool mt]) (.agg #[.string md', .string nm', .int .i64 kind', .int .i64 ty', .int .i64 lx', .int .i64 ly', .bool lz', .int .u8 val', .bool mt']); binOp BinOp.neq 63 (.agg #[.string md, .string nm, .int .i64 kind, .int .i64 ty, .int .i64 lx, .int .i64 ly, .bool lz, .int .u8 val, .bool mt]) (.agg #[.string md', .string nm', .int .i64 kind', .int .i64 ty', .int .i64 lx', .int .i64 ly', .bool lz', .int .u8 val', .bool mt']) : Sem Value).run Tryz.prog W = .ok (.bool (!(decide (md.toList = md'.toList) && decide (nm.toList = nm'.toList) && decide (kind = kind') && decide (ty = ty') && decide (lx = lx') && decide (ly = ly') && decide (lz = lz') && decide (val = val') && decide (mt = mt')))) W := by
  go_simp
  by_cases h0 : md.toList = md'.toList
  · skip
    by_cases h1 : nm.toList = nm'.toList
    · skip
      by_cases h2 : kind = kind'
      · skip
        by_cases h3 : ty = ty'
        · skip
          by_cases h4 : lx = lx'
          · skip
            by_cases h5 : ly = ly'
            · skip
              by_cases h6 : lz = lz'
              · skip
                by_cases h7 : val = val'
                · skip
                  by_cases h8 : mt = mt'
                  · skip
                    simp [h0, h1, h2, h3, h4, h5, h6, h7, h8]
                  · simp [h0, h1, h2, h3, h4, h5, h6, h7, h8]
                · simp [h0, h1, h2, h3, h4, h5, h6, h7]
              · simp [h0, h1, h2, h3, h4, h5, h6]
            · simp [h0, h1, h2, h3, h4, h5]
          · simp [h0, h1, h2, h3, h4]
        · simp [h0, h1, h2, h3]
      · simp [h0, h1, h2]
    · simp [h0, h1]
  · simp [h0]
theorem ne_lim (a b : Int) (c : Bool) (a' b' : Int) (c' : Bool) (x y : Operand) (W : World) : (do eqGuard BinOp.neq 61 x y (.agg #[.int .i64 a, .int .i64 b, .bool c]) (.agg #[.int .i64 a', .int .i64 b', .bool c']); binOp BinOp.neq 61 (.agg #[.int .i64 a, .int .i64 b, .bool c]) (.agg #[.int .i64 a', .int .i64 b', .bool c']) : Sem Value).run Tryz.prog W = .ok (.bool (!(decide (a = a') && decide (b = b') && decide (c = c')))) W := by
  go_simp
  by_cases h0 : a = a'
  · skip
    by_cases h1 : b = b'
    · skip
      by_cases h2 : c = c'
      · skip
        simp [h0, h1, h2]
      · simp [h0, h1, h2]
    · simp [h0, h1]
  · simp [h0]
theorem ne_exp (s : ByteArray) (a b : Int) (s' : ByteArray) (a' b' : Int) (x y : Operand) (W : World) : (do eqGuard BinOp.neq 97 x y (.agg #[.string s, .int .i64 a, .int .i64 b]) (.agg #[.string s', .int .i64 a', .int .i64 b']); binOp BinOp.neq 97 (.agg #[.string s, .int .i64 a, .int .i64 b]) (.agg #[.string s', .int .i64 a', .int .i64 b']) : Sem Value).run Tryz.prog W = .ok (.bool (!(decide (s.toList = s'.toList) && decide (a = a') && decide (b = b')))) W := by
  go_simp
  by_cases h0 : s.toList = s'.toList
  · skip
    by_cases h1 : a = a'
    · skip
      by_cases h2 : b = b'
      · skip
        simp [h0, h1, h2]
      · simp [h0, h1, h2]
    · simp [h0, h1]
  · simp [h0]
end Go.Proofs.YtffegkjlgeblbaaGreatDoor.Mdl
end
