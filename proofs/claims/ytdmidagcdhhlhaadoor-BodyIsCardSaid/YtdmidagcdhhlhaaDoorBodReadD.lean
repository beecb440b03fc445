/- Reading a body, by the document: walked. -/
import Derived.Test.YtdmidagcdhhlhaaDoorBodReadP
namespace Go.Proofs.YtdmidagcdhhlhaaDoor.Bod
open Go.RowKit Ints Typ Ins
set_option maxRecDepth 100000
set_option maxHeartbeats 4000000
set_option linter.unusedVariables false
theorem drd_succ (b : List Int) (f : Nat) (a : Int) (L : List Ins) (K : List Int) : drd b (f + 1) a L K =
    if (rdo b a).2.2 ≠ 0 then ([], 0, (rdo b a).2.2)
    else if (rdo b a).1.op = 11 ∧ K = [] then (L, (rdo b a).2.1, 0)
    else if (rdo b a).1.op = 5 ∧ K.headD 0 ≠ 4 then ([], 0, 3)
    else if 4096 ≤ L.length ∨ 32 < (kOut (rdo b a).1.op K).length then ([], 0, 4)
    else drd b f (rdo b a).2.1 (L ++ [(rdo b a).1]) (kIn (rdo b a).1.op K) := rfl
/-- The top of a stack of the call's own. -/
theorem ownI_top {w : World} {B : Nat} {v : Value} {K : List Int} {k : Int} (h : OwnI w B v (K ++ [k])) : ∃ g c, v = .slice (some ⟨g, 0, none⟩) (K.length + 1) c ∧ K.length + 1 ≤ c ∧ c ≤ 9223372036854775807 ∧ w.cell? ⟨g, K.length, none⟩ = some (.int .i64 k) ∧ OwnI w B (.slice (some ⟨g, 0, none⟩) K.length c) K := by
  obtain ⟨_, ⟨hv, hl⟩ | ⟨g, cap, cur, hv, _, _, hle, hm, _⟩⟩ := id h
  · simp at hl
  · have hlen : (K ++ [k]).length = K.length + 1 := by simp
    subst hv
    rw [hlen] at hle
    have hc := sl_cell (OwnI.slI h) (i := K.length) (by rw [hlen]; omega)
    obtain ⟨g', o', e, _, hc⟩ := hc
    simp only [Option.some.injEq, Addr.mk.injEq, and_true] at e
    obtain ⟨rfl, rfl⟩ := e
    rw [Nat.zero_add, getD_app2] at hc
    exact ⟨g, cap, by rw [hlen], hle, by unfold maxLen at hm; omega, hc, ownI_pop (n := 0) h⟩
/-- What stands between two rounds. -/
structure DMid (w : World) (b : List Int) (R : List Ins × Int × Int) (wr : World) (f : Nat) (a : Int) (vL : Value) (L : List (Ins × Value)) (vK : Value) (K : List Int) : Prop where
  r : drd b f a (insL L) K = R
  f : f + L.length = 4098
  len : L.length ≤ 4096
  row : OwnR wr w.heap.size vL L
  lab : Lab wr w.heap.size vK L
  stk : OwnI wr w.heap.size vK K.reverse
  kl : K.length ≤ L.length
  below : Below w.heap.size w wr
theorem dbread_any {v : Value} {b : List Int} {w : World} (a : Int) (hs : Sl w v b) (hbB : ∀ x ∈ b, 0 ≤ x ∧ x < 256) (hl : b.length ≤ 1000000) :
    Calls Tryd.prog 14 #[v, .int .i64 a] w (BRead (drd b 4098 a [] []) w) := by
  obtain ⟨Ab, cb, hv, _⟩ := id hs
  obtain ⟨kb, hkb⟩ : ∃ k, b.length = k := ⟨_, rfl⟩
  rw [hkb] at hv
  subst hv
  have HS := Lib.hid hs
  have HBB := Lib.hid hbB
  have HL := Lib.hid hl
  clear hs hbB hl hkb
  obtain ⟨R, hR⟩ : ∃ R, drd b 4098 a [] [] = R := ⟨_, rfl⟩
  rw [hR]
  have HRR := Lib.hid hR
  clear hR
  go_enter Tryd.func14, Tryd.ntmps14
  go_wp2_with fail
  go_loopw [1, 7, 8] (fun a1 a7 a8 wr => ∃ (f : Nat) (a' : Int) (L : List (Ins × Value)) (K : List Int), a1 = .int .i64 a' ∧ DMid w b R wr f a' a7 L a8 K) (fun _ a7 _ _ => 4097 - lenOf a7)
  case atStart => exact ⟨4098, a, [], [], rfl, ⟨HRR.out, rfl, by decide, ownR_nil _ _, fun p hp => by simp at hp, ownI_nil _ _, Nat.le_refl _, Below.refl _ _⟩⟩
  case round =>
    clear HRR
    obtain ⟨f, a', L, K, rfl, hM⟩ := hrel
    have HM := Lib.hid hM
    clear hM
    obtain ⟨PL, cL, hv⟩ := OwnR.form HM.out.row
    obtain ⟨nL, hnL⟩ : ∃ k, L.length = k := ⟨_, rfl⟩
    rw [hnL] at hv
    subst hv
    have HNL := Lib.hid hnL
    have hn1 : nL ≤ 4096 := by rw [← hnL]; exact HM.out.len
    obtain ⟨f, rfl⟩ : ∃ f', f = f' + 1 := ⟨f - 1, by have := HM.out.f; have := HM.out.len; omega⟩
    clear hnL
    obtain ⟨x, hx⟩ : ∃ x, rdo b a' = x := ⟨_, rfl⟩
    have HPR := Lib.hid (HM.out.r)
    rw [drd_succ, hx] at HPR
    have HX := Lib.hid hx
    clear hx
    go_wp2_with fail
    refine (rread_any a' (HS.out.keep HM.out.below) HBB.out HL.out).mono ?_
    rintro en w3 ⟨ov, rfl, ho3, hb3⟩
    rw [HX.out] at ho3 ⊢
    obtain ⟨⟨op, XA, XB, XK, XL⟩, behind, er⟩ := x
    obtain ⟨PX, cX, hvx⟩ := OwnI.form ho3
    obtain ⟨nX, hnX⟩ : ∃ k, XL.length = k := ⟨_, rfl⟩
    simp only at hvx ho3 HPR ⊢
    rw [hnX] at hvx
    subst hvx
    have HO3 := Lib.hid ho3
    have HBx := Lib.hid hb3
    have hal := (Below.refl w3.heap.size w3).alloc (Nat.le_refl _) (.cells #[.int .i64 op, .int .i64 XA, .int .i64 XB, .int .u64 XK, .slice PX nX cX] 50)
    have HBW := Lib.hid (HBx.out.trans (hal.mono HBx.out.size))
    have HBY := Lib.hid (HM.out.below.trans (HBW.out.mono HM.out.below.size))
    have HU := Lib.hid (show er = 0 → u64R XK from fun h0 => by
      have h1 := rdo_u64 HBB.out (a := a') (by rw [HX.out]; exact h0)
      rw [HX.out] at h1
      exact h1)
    have HR4 := Lib.hid (HM.out.row.keep HBW.out)
    have HLab4 := Lib.hid (HM.out.lab.keep HBW.out)
    have HK4 := Lib.hid (HM.out.stk.keep HBW.out)
    have HO4 := Lib.hid (World.ownsRow.alloc HO3.out (.cells #[.int .i64 op, .int .i64 XA, .int .i64 XB, .int .u64 XK, .slice PX nX cX] 50))
    have HFA := Lib.hid (fresh_apart HO3.out HM.out.stk)
    have HLS : Hid (w.heap.size ≤ wr.heap.size) := HM.out.below.size
    have HWS : Hid (wr.heap.size ≤ w3.heap.size) := hb3.size
    have HC9 := Lib.hid (heap_new w3 (.cells #[.int .i64 op, .int .i64 XA, .int .i64 XB, .int .u64 XK, .slice PX nX cX] 50))
    clear ho3 hb3 hnX hal
    by_cases he : er = 0
    · subst he
      have HLabA := Lib.hid (HLab4.out.add (p := (⟨op, XA, XB, XK, XL⟩, .slice PX nX cX)) (own_low HO4.out HLS.out) (HU.out rfl) HFA.out)
      have HPR2 : Hid ((if op = 11 ∧ K = [] then ((insL L, behind, 0) : List Ins × Int × Int) else if op = 5 ∧ K.headD 0 ≠ 4 then ([], 0, 3) else if 4096 ≤ nL ∨ 32 < (kOut op K).length then ([], 0, 4) else drd b f behind (insL L ++ [⟨op, XA, XB, XK, XL⟩]) (kIn op K)) = R) := by
        have h := HPR.out
        rw [if_neg (by simp), insL_len, HNL.out] at h
        exact h
      clear HPR HU HFA
      cases K with
      | nil =>
        obtain ⟨PK, cK, hvK⟩ := OwnI.form HK4.out
        have hvK : _ = Value.slice PK 0 cK := hvK
        subst hvK
        by_cases e11 : op = 11
        · have HRV : Hid (R = (insL L, behind, 0)) := by
            have h := HPR2.out
            rw [if_pos ⟨e11, rfl⟩] at h
            exact h.symm
          have t2 : (op == 11) = true := by simpa using e11
          have HROW := Lib.hid (OwnR.row HR4.out HLab4.out.ok)
          clear e11
          go_wp2_with fail
          exact bodyPost_ret (v := .tuple #[.slice PL nL cL, .int .i64 behind, .int .i64 0]) (by simp [results, Tryd.results14, go_sem]) rfl ⟨_, _, by rw [HRV.out], HROW.out, by rw [HRV.out], HBY.out⟩
        · have t2 : (op == 11) = false := by simpa using e11
          by_cases e5 : op = 5
          · have HRV : Hid (R = ([], 0, 3)) := by
              have h := HPR2.out
              rw [if_neg (fun q => e11 q.1), if_pos ⟨e5, by simp⟩] at h
              exact h.symm
            have t3 : (op == 5) = true := by simpa using e5
            clear e11 e5
            go_wp2_with fail
            exact bodyPost_ret (v := .tuple #[.slice none 0 0, .int .i64 0, .int .i64 3]) (by simp [results, Tryd.results14, go_sem]) rfl ⟨_, [], by rw [HRV.out], InRow.nil _, by rw [HRV.out]; rfl, HBY.out⟩
          · have t3 : (op == 5) = false := by simpa using e5
            have hko : kOut op [] = [] := by unfold kOut; split <;> rfl
            have HPR3 : Hid ((if 4096 ≤ nL ∨ 32 < 0 then (([], 0, 4) : List Ins × Int × Int) else drd b f behind (insL L ++ [⟨op, XA, XB, XK, XL⟩]) (kIn op [])) = R) := by
              have h := HPR2.out
              rw [if_neg (fun q => e11 q.1), if_neg (fun q => e5 q.1), hko] at h
              exact h
            cases hopn : opn op with
            | true =>
              have hkin : kIn op [] = [op] := by unfold kIn; rw [if_pos (.inl hopn), hko]
              rw [hkin] at HPR3
              clear e11 e5 hko hkin HPR2
              by_cases h4096 : 4096 ≤ nL
              · have HRV : Hid (R = ([], 0, 4)) := by
                  have h := HPR3.out
                  rw [if_pos (.inl h4096)] at h
                  exact h.symm
                have t9 : decide ((4096 : Int) ≤ (nL : Int)) = true := decide_eq_true (by omega)
                have t9' : decide (4096 ≤ nL) = true := decide_eq_true h4096
                clear h4096
                go_wp2_with fail
                exact bodyPost_ret (v := .tuple #[.slice none 0 0, .int .i64 0, .int .i64 4]) (by simp [results, Tryd.results14, go_sem]) rfl ⟨_, [], by rw [HRV.out], InRow.nil _, by rw [HRV.out]; rfl, HBY.out⟩
              · have t9 : decide ((4096 : Int) ≤ (nL : Int)) = false := decide_eq_false (by omega)
                have t9' : decide (4096 ≤ nL) = false := decide_eq_false h4096
                by_cases hdeep : 32 < 0
                · exact absurd hdeep (by decide)
                · have HRV : Hid (drd b f behind (insL L ++ [⟨op, XA, XB, XK, XL⟩]) [op] = R) := by
                    have h := HPR3.out
                    rw [if_neg (fun q => q.elim h4096 hdeep)] at h
                    exact h
                  have t10 : decide ((32 : Int) < (0 : Int)) = false := decide_eq_false (by omega)
                  have t10' : decide (32 < 0) = false := decide_eq_false hdeep
                  have HLT := Lib.hid (show nL < 4096 by omega)
                  clear h4096 hdeep
                  have HLabB := Lib.hid (HLabA.out)
                  have HSTK := Lib.hid (HK4.out)
                  go_wp2_with (at_builtin; refine wp_oneR _ rfl (.tmp 73) (.tmp 75) rfl w.heap.size _ L (⟨op, XA, XB, XK, XL⟩, .slice PX nX cX) ⟨_, _, _, rfl⟩ rfl HR4.out (by rw [size_new]; rfl) (by have := HM.out.len; omega) HBY.out.size ?_; intro v7 w7 ho7 hb7 hk7; have HO7 := Lib.hid ho7; have HB7 := Lib.hid (HBY.out.trans hb7); have HSTK7 := Lib.hid (ownI_apartR HSTK.out HR4.out hk7); have HLab7 := Lib.hid (HLabB.out.row HR4.out hk7); have HC7 := Lib.hid ((hk7 _ (lt_of_heap HC9.out) (fun e => by have h1 := (World.ownsRow.lt HM.out.row _ e.symm).2; have h2 := HWS.out; omega)).trans HC9.out); clear ho7 hb7 hk7; obtain ⟨P7, c7', hv7⟩ := OwnR.form HO7.out; rw [show (L ++ [((⟨op, XA, XB, XK, XL⟩ : Ins), (Value.slice PX nX cX))]).length = nL + 1 from by rw [List.length_append, HNL.out]; rfl] at hv7; subst hv7; have x0 := (cells_at HC7.out 0).1; have x1 := (cells_at HC7.out 1).1; have x2 := (cells_at HC7.out 2).1; have x3 := (cells_at HC7.out 3).1; have x4 := (cells_at HC7.out 4).1; simp only [List.getElem?_toArray, List.getElem?_cons_zero, List.getElem?_cons_succ] at x0 x1 x2 x3 x4)
                  refine (opens_any op XA XB XK PX nX cX w7).mono ?_
                  rintro en w8 ⟨rfl, hb8⟩
                  rw [hopn]
                  have HO8 := Lib.hid (HO7.out.keep hb8)
                  have HB8 := Lib.hid (HB7.out.trans (hb8.mono HB7.out.size))
                  have HSTK8 := Lib.hid (HSTK7.out.keep hb8)
                  have HLab8 := Lib.hid (HLab7.out.keep hb8)
                  have HC8 := Lib.hid ((hb8.block _ (lt_of_heap HC7.out)).trans HC7.out)
                  clear hb8 x0 x1 x2 x3 x4
                  have x0 := (cells_at HC8.out 0).1
                  simp only [List.getElem?_toArray, List.getElem?_cons_zero] at x0
                  go_wp2_with (at_builtin; refine wp_oneJ w8 rfl (.tmp 84) (.tmp 87) rfl w.heap.size _ (([] : List Int).reverse) op rfl HSTK8.out rfl (by have k1 := HM.out.kl; have k2 := HM.out.len; simp only [List.length_reverse, List.length_nil] at k1 ⊢; omega) HB8.out.size ?_; intro v9 w9 ho9 hb9 hk9 hn9; have HSTK9 := Lib.hid ho9; have HO9 := Lib.hid (ownR_apartI HO8.out HSTK8.out hk9); have HLab9 := Lib.hid (HLab8.out.num hk9 hn9); have HB9 := Lib.hid (HB8.out.trans hb9); clear ho9 hb9 hk9 hn9)
                  go_roundw
                  case rel => exact ⟨f, behind, L ++ [(⟨op, XA, XB, XK, XL⟩, .slice PX nX cX)], [op], rfl, ⟨by rw [← HRV.out]; simp [insL], by have := HM.out.f; rw [List.length_append]; simp; omega, by have k1 := HNL.out; have k2 := HLT.out; simp only [List.length_append, List.length_cons, List.length_nil]; omega, HO9.out, HLab9.out, by rw [show ([op] : List Int).reverse = ([] : List Int).reverse ++ [op] from rfl]; exact HSTK9.out, by have k1 := HM.out.kl; simp only [List.length_append, List.length_cons, List.length_nil] at k1 ⊢; omega, HB9.out⟩⟩
                  case measure => simp [lenOf]; omega
            | false =>
              have hkin : kIn op [] = [] := by unfold kIn; rw [if_neg (by rw [hopn]; intro q; rcases q with q | q; cases q; exact e5 q), hko]
              rw [hkin] at HPR3
              clear e11 e5 hko hkin HPR2
              by_cases h4096 : 4096 ≤ nL
              · have HRV : Hid (R = ([], 0, 4)) := by
                  have h := HPR3.out
                  rw [if_pos (.inl h4096)] at h
                  exact h.symm
                have t9 : decide ((4096 : Int) ≤ (nL : Int)) = true := decide_eq_true (by omega)
                have t9' : decide (4096 ≤ nL) = true := decide_eq_true h4096
                clear h4096
                go_wp2_with fail
                exact bodyPost_ret (v := .tuple #[.slice none 0 0, .int .i64 0, .int .i64 4]) (by simp [results, Tryd.results14, go_sem]) rfl ⟨_, [], by rw [HRV.out], InRow.nil _, by rw [HRV.out]; rfl, HBY.out⟩
              · have t9 : decide ((4096 : Int) ≤ (nL : Int)) = false := decide_eq_false (by omega)
                have t9' : decide (4096 ≤ nL) = false := decide_eq_false h4096
                by_cases hdeep : 32 < 0
                · exact absurd hdeep (by decide)
                · have HRV : Hid (drd b f behind (insL L ++ [⟨op, XA, XB, XK, XL⟩]) ([] : List Int) = R) := by
                    have h := HPR3.out
                    rw [if_neg (fun q => q.elim h4096 hdeep)] at h
                    exact h
                  have t10 : decide ((32 : Int) < (0 : Int)) = false := decide_eq_false (by omega)
                  have t10' : decide (32 < 0) = false := decide_eq_false hdeep
                  have HLT := Lib.hid (show nL < 4096 by omega)
                  clear h4096 hdeep
                  have HLabB := Lib.hid (HLabA.out)
                  have HSTK := Lib.hid (HK4.out)
                  go_wp2_with (at_builtin; refine wp_oneR _ rfl (.tmp 73) (.tmp 75) rfl w.heap.size _ L (⟨op, XA, XB, XK, XL⟩, .slice PX nX cX) ⟨_, _, _, rfl⟩ rfl HR4.out (by rw [size_new]; rfl) (by have := HM.out.len; omega) HBY.out.size ?_; intro v7 w7 ho7 hb7 hk7; have HO7 := Lib.hid ho7; have HB7 := Lib.hid (HBY.out.trans hb7); have HSTK7 := Lib.hid (ownI_apartR HSTK.out HR4.out hk7); have HLab7 := Lib.hid (HLabB.out.row HR4.out hk7); have HC7 := Lib.hid ((hk7 _ (lt_of_heap HC9.out) (fun e => by have h1 := (World.ownsRow.lt HM.out.row _ e.symm).2; have h2 := HWS.out; omega)).trans HC9.out); clear ho7 hb7 hk7; obtain ⟨P7, c7', hv7⟩ := OwnR.form HO7.out; rw [show (L ++ [((⟨op, XA, XB, XK, XL⟩ : Ins), (Value.slice PX nX cX))]).length = nL + 1 from by rw [List.length_append, HNL.out]; rfl] at hv7; subst hv7; have x0 := (cells_at HC7.out 0).1; have x1 := (cells_at HC7.out 1).1; have x2 := (cells_at HC7.out 2).1; have x3 := (cells_at HC7.out 3).1; have x4 := (cells_at HC7.out 4).1; simp only [List.getElem?_toArray, List.getElem?_cons_zero, List.getElem?_cons_succ] at x0 x1 x2 x3 x4)
                  refine (opens_any op XA XB XK PX nX cX w7).mono ?_
                  rintro en w8 ⟨rfl, hb8⟩
                  rw [hopn]
                  have HO8 := Lib.hid (HO7.out.keep hb8)
                  have HB8 := Lib.hid (HB7.out.trans (hb8.mono HB7.out.size))
                  have HSTK8 := Lib.hid (HSTK7.out.keep hb8)
                  have HLab8 := Lib.hid (HLab7.out.keep hb8)
                  have HC8 := Lib.hid ((hb8.block _ (lt_of_heap HC7.out)).trans HC7.out)
                  clear hb8 x0 x1 x2 x3 x4
                  have x0 := (cells_at HC8.out 0).1
                  simp only [List.getElem?_toArray, List.getElem?_cons_zero] at x0
                  go_wp2_with fail
                  go_roundw
                  case rel => exact ⟨f, behind, L ++ [(⟨op, XA, XB, XK, XL⟩, .slice PX nX cX)], ([] : List Int), rfl, ⟨by rw [← HRV.out]; simp [insL], by have := HM.out.f; rw [List.length_append]; simp; omega, by have k1 := HNL.out; have k2 := HLT.out; simp only [List.length_append, List.length_cons, List.length_nil]; omega, HO8.out, HLab8.out, by rw [show ([] : List Int).reverse = ([] : List Int).reverse from rfl]; exact HSTK8.out, by have k1 := HM.out.kl; simp only [List.length_append, List.length_cons, List.length_nil] at k1 ⊢; omega, HB8.out⟩⟩
                  case measure => simp [lenOf]; omega
      | cons k K =>
        have HK4' := HK4.out
        rw [List.reverse_cons] at HK4'
        obtain ⟨gK, cK, hvK, hkc, hkc9, htop, hpop⟩ := ownI_top HK4'
        have HPOP := Lib.hid hpop
        obtain ⟨nK, hnK⟩ : ∃ m, K.reverse.length = m := ⟨_, rfl⟩
        have HNK := Lib.hid hnK
        rw [hnK] at hvK hkc htop HPOP
        subst hvK
        have hnK2 : K.length = nK := by rw [← hnK, List.length_reverse]
        have hkl : nK + 1 ≤ nL := by have := HM.out.kl; rw [List.length_cons, hnK2, HNL.out] at this; exact this
        have HNK2 := Lib.hid hnK2
        clear hpop HK4' hnK hnK2
        have i1 : (0 : Int) ≤ (nK : Int) := by omega
        have i2 : (nK : Int) < ((nK + 1 : Nat) : Int) := by omega
        have i3 : (nK : Int) < (nK : Int) + 1 := by omega
        have i4 : (nK : Int) ≤ (cK : Int) := by omega
        have w1 : IntKind.i64.wrap (((nK + 1 : Nat) : Int) - 1) = (nK : Int) := by rw [IntWalk.i64_in _ (by omega)]; omega
        have w1' : IntKind.i64.wrap (nK : Int) = (nK : Int) := IntWalk.i64_in _ (by omega)
        have t0 : (((nK + 1 : Nat) : Int) == 0) = false := by simp; omega
        have t0' : ((nK : Int) + 1 == 0) = false := by simp; omega
        by_cases e5 : op = 5
        · have t3 : (op == 5) = true := by simpa using e5
          have t2 : (op == 11) = false := by rw [e5]; decide
          by_cases k4 : k = 4
          · have t4 : (k != 4) = false := by simp [k4]
            have HPR3 : Hid ((if 4096 ≤ nL ∨ 32 < nK then (([], 0, 4) : List Ins × Int × Int) else drd b f behind (insL L ++ [⟨op, XA, XB, XK, XL⟩]) (op :: K)) = R) := by
              have h := HPR2.out
              have e1 : kOut op (k :: K) = K := by unfold kOut; rw [if_pos (.inl e5)]; rfl
              have e2 : kIn op (k :: K) = op :: K := by unfold kIn; rw [if_pos (.inr e5), e1]
              rw [if_neg (by rw [e5]; simp), if_neg (by simp [k4]), e1, e2, HNK2.out] at h
              exact h
            have hopn : opn op = false := by rw [e5]; decide
            clear e5 k4 HPR2
            by_cases h4096 : 4096 ≤ nL
            · have HRV : Hid (R = ([], 0, 4)) := by
                have h := HPR3.out
                rw [if_pos (.inl h4096)] at h
                exact h.symm
              have t9 : decide ((4096 : Int) ≤ (nL : Int)) = true := decide_eq_true (by omega)
              have t9' : decide (4096 ≤ nL) = true := decide_eq_true h4096
              clear h4096
              go_wp2_with fail
              exact bodyPost_ret (v := .tuple #[.slice none 0 0, .int .i64 0, .int .i64 4]) (by simp [results, Tryd.results14, go_sem]) rfl ⟨_, [], by rw [HRV.out], InRow.nil _, by rw [HRV.out]; rfl, HBY.out⟩
            · have t9 : decide ((4096 : Int) ≤ (nL : Int)) = false := decide_eq_false (by omega)
              have t9' : decide (4096 ≤ nL) = false := decide_eq_false h4096
              by_cases hdeep : 32 < nK
              · have HRV : Hid (R = ([], 0, 4)) := by
                  have h := HPR3.out
                  rw [if_pos (.inr hdeep)] at h
                  exact h.symm
                have t10 : decide ((32 : Int) < (nK : Int)) = true := decide_eq_true (by omega)
                have t10' : decide (32 < nK) = true := decide_eq_true hdeep
                clear h4096 hdeep
                go_wp2_with fail
                exact bodyPost_ret (v := .tuple #[.slice none 0 0, .int .i64 0, .int .i64 4]) (by simp [results, Tryd.results14, go_sem]) rfl ⟨_, [], by rw [HRV.out], InRow.nil _, by rw [HRV.out]; rfl, HBY.out⟩
              · have HRV : Hid (drd b f behind (insL L ++ [⟨op, XA, XB, XK, XL⟩]) (op :: K) = R) := by
                  have h := HPR3.out
                  rw [if_neg (fun q => q.elim h4096 hdeep)] at h
                  exact h
                have t10 : decide ((32 : Int) < (nK : Int)) = false := decide_eq_false (by omega)
                have t10' : decide (32 < nK) = false := decide_eq_false hdeep
                have HLT := Lib.hid (show nL < 4096 by omega)
                clear h4096 hdeep
                have HLabB := Lib.hid (Lab.same (vK' := .slice (some ⟨gK, 0, none⟩) nK cK) HLabA.out rfl)
                have HSTK := Lib.hid (HPOP.out)
                go_wp2_with (at_builtin; refine wp_oneR _ rfl (.tmp 73) (.tmp 75) rfl w.heap.size _ L (⟨op, XA, XB, XK, XL⟩, .slice PX nX cX) ⟨_, _, _, rfl⟩ rfl HR4.out (by rw [size_new]; rfl) (by have := HM.out.len; omega) HBY.out.size ?_; intro v7 w7 ho7 hb7 hk7; have HO7 := Lib.hid ho7; have HB7 := Lib.hid (HBY.out.trans hb7); have HSTK7 := Lib.hid (ownI_apartR HSTK.out HR4.out hk7); have HLab7 := Lib.hid (HLabB.out.row HR4.out hk7); have HC7 := Lib.hid ((hk7 _ (lt_of_heap HC9.out) (fun e => by have h1 := (World.ownsRow.lt HM.out.row _ e.symm).2; have h2 := HWS.out; omega)).trans HC9.out); clear ho7 hb7 hk7; obtain ⟨P7, c7', hv7⟩ := OwnR.form HO7.out; rw [show (L ++ [((⟨op, XA, XB, XK, XL⟩ : Ins), (Value.slice PX nX cX))]).length = nL + 1 from by rw [List.length_append, HNL.out]; rfl] at hv7; subst hv7; have x0 := (cells_at HC7.out 0).1; have x1 := (cells_at HC7.out 1).1; have x2 := (cells_at HC7.out 2).1; have x3 := (cells_at HC7.out 3).1; have x4 := (cells_at HC7.out 4).1; simp only [List.getElem?_toArray, List.getElem?_cons_zero, List.getElem?_cons_succ] at x0 x1 x2 x3 x4)
                refine (opens_any op XA XB XK PX nX cX w7).mono ?_
                rintro en w8 ⟨rfl, hb8⟩
                rw [hopn]
                have HO8 := Lib.hid (HO7.out.keep hb8)
                have HB8 := Lib.hid (HB7.out.trans (hb8.mono HB7.out.size))
                have HSTK8 := Lib.hid (HSTK7.out.keep hb8)
                have HLab8 := Lib.hid (HLab7.out.keep hb8)
                have HC8 := Lib.hid ((hb8.block _ (lt_of_heap HC7.out)).trans HC7.out)
                clear hb8 x0 x1 x2 x3 x4
                have x0 := (cells_at HC8.out 0).1
                simp only [List.getElem?_toArray, List.getElem?_cons_zero] at x0
                go_wp2_with (at_builtin; refine wp_oneJ w8 rfl (.tmp 84) (.tmp 87) rfl w.heap.size _ (K.reverse) op rfl HSTK8.out rfl (by have k1 := HM.out.kl; have k2 := HM.out.len; simp only [List.length_cons, List.length_reverse] at k1 ⊢; omega) HB8.out.size ?_; intro v9 w9 ho9 hb9 hk9 hn9; have HSTK9 := Lib.hid ho9; have HO9 := Lib.hid (ownR_apartI HO8.out HSTK8.out hk9); have HLab9 := Lib.hid (HLab8.out.num hk9 hn9); have HB9 := Lib.hid (HB8.out.trans hb9); clear ho9 hb9 hk9 hn9)
                go_roundw
                case rel => exact ⟨f, behind, L ++ [(⟨op, XA, XB, XK, XL⟩, .slice PX nX cX)], (op :: K), rfl, ⟨by rw [← HRV.out]; simp [insL], by have := HM.out.f; rw [List.length_append]; simp; omega, by have k1 := HNL.out; have k2 := HLT.out; simp only [List.length_append, List.length_cons, List.length_nil]; omega, HO9.out, HLab9.out, by rw [List.reverse_cons]; exact HSTK9.out, by have k1 := HM.out.kl; simp only [List.length_append, List.length_cons, List.length_nil] at k1 ⊢; omega, HB9.out⟩⟩
                case measure => simp [lenOf]; omega
          · have t4 : (k != 4) = true := by simpa using k4
            have HRV : Hid (R = ([], 0, 3)) := by
              have h := HPR2.out
              rw [if_neg (by rw [e5]; simp), if_pos ⟨e5, by simpa using k4⟩] at h
              exact h.symm
            clear e5 k4 HPR2
            go_wp2_with fail
            exact bodyPost_ret (v := .tuple #[.slice none 0 0, .int .i64 0, .int .i64 3]) (by simp [results, Tryd.results14, go_sem]) rfl ⟨_, [], by rw [HRV.out], InRow.nil _, by rw [HRV.out]; rfl, HBY.out⟩
        · have t3 : (op == 5) = false := by simpa using e5
          by_cases e11 : op = 11
          · have t2 : (op == 11) = true := by simpa using e11
            have HPR3 : Hid ((if 4096 ≤ nL ∨ 32 < nK then (([], 0, 4) : List Ins × Int × Int) else drd b f behind (insL L ++ [⟨op, XA, XB, XK, XL⟩]) K) = R) := by
              have h := HPR2.out
              have e1 : kOut op (k :: K) = K := by unfold kOut; rw [if_pos (.inr e11)]; rfl
              have e2 : kIn op (k :: K) = K := by unfold kIn; rw [if_neg (by rw [e11]; decide), e1]
              rw [if_neg (by simp), if_neg (fun q => e5 q.1), e1, e2, HNK2.out] at h
              exact h
            have hopn : opn op = false := by rw [e11]; decide
            clear e5 e11 HPR2
            by_cases h4096 : 4096 ≤ nL
            · have HRV : Hid (R = ([], 0, 4)) := by
                have h := HPR3.out
                rw [if_pos (.inl h4096)] at h
                exact h.symm
              have t9 : decide ((4096 : Int) ≤ (nL : Int)) = true := decide_eq_true (by omega)
              have t9' : decide (4096 ≤ nL) = true := decide_eq_true h4096
              clear h4096
              go_wp2_with fail
              exact bodyPost_ret (v := .tuple #[.slice none 0 0, .int .i64 0, .int .i64 4]) (by simp [results, Tryd.results14, go_sem]) rfl ⟨_, [], by rw [HRV.out], InRow.nil _, by rw [HRV.out]; rfl, HBY.out⟩
            · have t9 : decide ((4096 : Int) ≤ (nL : Int)) = false := decide_eq_false (by omega)
              have t9' : decide (4096 ≤ nL) = false := decide_eq_false h4096
              by_cases hdeep : 32 < nK
              · have HRV : Hid (R = ([], 0, 4)) := by
                  have h := HPR3.out
                  rw [if_pos (.inr hdeep)] at h
                  exact h.symm
                have t10 : decide ((32 : Int) < (nK : Int)) = true := decide_eq_true (by omega)
                have t10' : decide (32 < nK) = true := decide_eq_true hdeep
                clear h4096 hdeep
                go_wp2_with fail
                exact bodyPost_ret (v := .tuple #[.slice none 0 0, .int .i64 0, .int .i64 4]) (by simp [results, Tryd.results14, go_sem]) rfl ⟨_, [], by rw [HRV.out], InRow.nil _, by rw [HRV.out]; rfl, HBY.out⟩
              · have HRV : Hid (drd b f behind (insL L ++ [⟨op, XA, XB, XK, XL⟩]) K = R) := by
                  have h := HPR3.out
                  rw [if_neg (fun q => q.elim h4096 hdeep)] at h
                  exact h
                have t10 : decide ((32 : Int) < (nK : Int)) = false := decide_eq_false (by omega)
                have t10' : decide (32 < nK) = false := decide_eq_false hdeep
                have HLT := Lib.hid (show nL < 4096 by omega)
                clear h4096 hdeep
                have HLabB := Lib.hid (Lab.same (vK' := .slice (some ⟨gK, 0, none⟩) nK cK) HLabA.out rfl)
                have HSTK := Lib.hid (HPOP.out)
                go_wp2_with (at_builtin; refine wp_oneR _ rfl (.tmp 73) (.tmp 75) rfl w.heap.size _ L (⟨op, XA, XB, XK, XL⟩, .slice PX nX cX) ⟨_, _, _, rfl⟩ rfl HR4.out (by rw [size_new]; rfl) (by have := HM.out.len; omega) HBY.out.size ?_; intro v7 w7 ho7 hb7 hk7; have HO7 := Lib.hid ho7; have HB7 := Lib.hid (HBY.out.trans hb7); have HSTK7 := Lib.hid (ownI_apartR HSTK.out HR4.out hk7); have HLab7 := Lib.hid (HLabB.out.row HR4.out hk7); have HC7 := Lib.hid ((hk7 _ (lt_of_heap HC9.out) (fun e => by have h1 := (World.ownsRow.lt HM.out.row _ e.symm).2; have h2 := HWS.out; omega)).trans HC9.out); clear ho7 hb7 hk7; obtain ⟨P7, c7', hv7⟩ := OwnR.form HO7.out; rw [show (L ++ [((⟨op, XA, XB, XK, XL⟩ : Ins), (Value.slice PX nX cX))]).length = nL + 1 from by rw [List.length_append, HNL.out]; rfl] at hv7; subst hv7; have x0 := (cells_at HC7.out 0).1; have x1 := (cells_at HC7.out 1).1; have x2 := (cells_at HC7.out 2).1; have x3 := (cells_at HC7.out 3).1; have x4 := (cells_at HC7.out 4).1; simp only [List.getElem?_toArray, List.getElem?_cons_zero, List.getElem?_cons_succ] at x0 x1 x2 x3 x4)
                refine (opens_any op XA XB XK PX nX cX w7).mono ?_
                rintro en w8 ⟨rfl, hb8⟩
                rw [hopn]
                have HO8 := Lib.hid (HO7.out.keep hb8)
                have HB8 := Lib.hid (HB7.out.trans (hb8.mono HB7.out.size))
                have HSTK8 := Lib.hid (HSTK7.out.keep hb8)
                have HLab8 := Lib.hid (HLab7.out.keep hb8)
                have HC8 := Lib.hid ((hb8.block _ (lt_of_heap HC7.out)).trans HC7.out)
                clear hb8 x0 x1 x2 x3 x4
                have x0 := (cells_at HC8.out 0).1
                simp only [List.getElem?_toArray, List.getElem?_cons_zero] at x0
                go_wp2_with fail
                go_roundw
                case rel => exact ⟨f, behind, L ++ [(⟨op, XA, XB, XK, XL⟩, .slice PX nX cX)], K, rfl, ⟨by rw [← HRV.out]; simp [insL], by have := HM.out.f; rw [List.length_append]; simp; omega, by have k1 := HNL.out; have k2 := HLT.out; simp only [List.length_append, List.length_cons, List.length_nil]; omega, HO8.out, HLab8.out, by rw [show K.reverse = K.reverse from rfl]; exact HSTK8.out, by have k1 := HM.out.kl; simp only [List.length_append, List.length_cons, List.length_nil] at k1 ⊢; omega, HB8.out⟩⟩
                case measure => simp [lenOf]; omega
          · have t2 : (op == 11) = false := by simpa using e11
            have hko : kOut op (k :: K) = k :: K := by unfold kOut; rw [if_neg (by omega)]
            have HPR3 : Hid ((if 4096 ≤ nL ∨ 32 < nK + 1 then (([], 0, 4) : List Ins × Int × Int) else drd b f behind (insL L ++ [⟨op, XA, XB, XK, XL⟩]) (kIn op (k :: K))) = R) := by
              have h := HPR2.out
              rw [if_neg (fun q => e11 q.1), if_neg (fun q => e5 q.1), hko, List.length_cons, HNK2.out] at h
              exact h
            have hd1 : ∀ q : Bool, decide ((32 : Int) < (nK : Int) + 1) = q ↔ decide ((32 : Int) < ((nK + 1 : Nat) : Int)) = q := fun q => Iff.rfl
            cases hopn : opn op with
            | true =>
              have hkin : kIn op (k :: K) = op :: k :: K := by unfold kIn; rw [if_pos (.inl hopn), hko]
              rw [hkin] at HPR3
              clear e11 e5 hko hkin HPR2
              by_cases h4096 : 4096 ≤ nL
              · have HRV : Hid (R = ([], 0, 4)) := by
                  have h := HPR3.out
                  rw [if_pos (.inl h4096)] at h
                  exact h.symm
                have t9 : decide ((4096 : Int) ≤ (nL : Int)) = true := decide_eq_true (by omega)
                have t9' : decide (4096 ≤ nL) = true := decide_eq_true h4096
                clear h4096
                go_wp2_with fail
                exact bodyPost_ret (v := .tuple #[.slice none 0 0, .int .i64 0, .int .i64 4]) (by simp [results, Tryd.results14, go_sem]) rfl ⟨_, [], by rw [HRV.out], InRow.nil _, by rw [HRV.out]; rfl, HBY.out⟩
              · have t9 : decide ((4096 : Int) ≤ (nL : Int)) = false := decide_eq_false (by omega)
                have t9' : decide (4096 ≤ nL) = false := decide_eq_false h4096
                by_cases hdeep : 32 < nK + 1
                · have HRV : Hid (R = ([], 0, 4)) := by
                    have h := HPR3.out
                    rw [if_pos (.inr hdeep)] at h
                    exact h.symm
                  have t10 : decide ((32 : Int) < (nK + 1 : Int)) = true := decide_eq_true (by omega)
                  have t10' : decide (32 < nK + 1) = true := decide_eq_true hdeep
                  clear h4096 hdeep
                  go_wp2_with fail
                  exact bodyPost_ret (v := .tuple #[.slice none 0 0, .int .i64 0, .int .i64 4]) (by simp [results, Tryd.results14, go_sem]) rfl ⟨_, [], by rw [HRV.out], InRow.nil _, by rw [HRV.out]; rfl, HBY.out⟩
                · have HRV : Hid (drd b f behind (insL L ++ [⟨op, XA, XB, XK, XL⟩]) (op :: k :: K) = R) := by
                    have h := HPR3.out
                    rw [if_neg (fun q => q.elim h4096 hdeep)] at h
                    exact h
                  have t10 : decide ((32 : Int) < (nK + 1 : Int)) = false := decide_eq_false (by omega)
                  have t10' : decide (32 < nK + 1) = false := decide_eq_false hdeep
                  have HLT := Lib.hid (show nL < 4096 by omega)
                  clear h4096 hdeep
                  have HLabB := Lib.hid (HLabA.out)
                  have HSTK := Lib.hid (HK4.out)
                  go_wp2_with (at_builtin; refine wp_oneR _ rfl (.tmp 73) (.tmp 75) rfl w.heap.size _ L (⟨op, XA, XB, XK, XL⟩, .slice PX nX cX) ⟨_, _, _, rfl⟩ rfl HR4.out (by rw [size_new]; rfl) (by have := HM.out.len; omega) HBY.out.size ?_; intro v7 w7 ho7 hb7 hk7; have HO7 := Lib.hid ho7; have HB7 := Lib.hid (HBY.out.trans hb7); have HSTK7 := Lib.hid (ownI_apartR HSTK.out HR4.out hk7); have HLab7 := Lib.hid (HLabB.out.row HR4.out hk7); have HC7 := Lib.hid ((hk7 _ (lt_of_heap HC9.out) (fun e => by have h1 := (World.ownsRow.lt HM.out.row _ e.symm).2; have h2 := HWS.out; omega)).trans HC9.out); clear ho7 hb7 hk7; obtain ⟨P7, c7', hv7⟩ := OwnR.form HO7.out; rw [show (L ++ [((⟨op, XA, XB, XK, XL⟩ : Ins), (Value.slice PX nX cX))]).length = nL + 1 from by rw [List.length_append, HNL.out]; rfl] at hv7; subst hv7; have x0 := (cells_at HC7.out 0).1; have x1 := (cells_at HC7.out 1).1; have x2 := (cells_at HC7.out 2).1; have x3 := (cells_at HC7.out 3).1; have x4 := (cells_at HC7.out 4).1; simp only [List.getElem?_toArray, List.getElem?_cons_zero, List.getElem?_cons_succ] at x0 x1 x2 x3 x4)
                  refine (opens_any op XA XB XK PX nX cX w7).mono ?_
                  rintro en w8 ⟨rfl, hb8⟩
                  rw [hopn]
                  have HO8 := Lib.hid (HO7.out.keep hb8)
                  have HB8 := Lib.hid (HB7.out.trans (hb8.mono HB7.out.size))
                  have HSTK8 := Lib.hid (HSTK7.out.keep hb8)
                  have HLab8 := Lib.hid (HLab7.out.keep hb8)
                  have HC8 := Lib.hid ((hb8.block _ (lt_of_heap HC7.out)).trans HC7.out)
                  clear hb8 x0 x1 x2 x3 x4
                  have x0 := (cells_at HC8.out 0).1
                  simp only [List.getElem?_toArray, List.getElem?_cons_zero] at x0
                  go_wp2_with (at_builtin; refine wp_oneJ w8 rfl (.tmp 84) (.tmp 87) rfl w.heap.size _ ((k :: K).reverse) op rfl HSTK8.out rfl (by have k1 := HM.out.kl; have k2 := HM.out.len; simp only [List.length_cons, List.length_reverse] at k1 ⊢; omega) HB8.out.size ?_; intro v9 w9 ho9 hb9 hk9 hn9; have HSTK9 := Lib.hid ho9; have HO9 := Lib.hid (ownR_apartI HO8.out HSTK8.out hk9); have HLab9 := Lib.hid (HLab8.out.num hk9 hn9); have HB9 := Lib.hid (HB8.out.trans hb9); clear ho9 hb9 hk9 hn9)
                  go_roundw
                  case rel => exact ⟨f, behind, L ++ [(⟨op, XA, XB, XK, XL⟩, .slice PX nX cX)], (op :: k :: K), rfl, ⟨by rw [← HRV.out]; simp [insL], by have := HM.out.f; rw [List.length_append]; simp; omega, by have k1 := HNL.out; have k2 := HLT.out; simp only [List.length_append, List.length_cons, List.length_nil]; omega, HO9.out, HLab9.out, by rw [List.reverse_cons]; exact HSTK9.out, by have k1 := HM.out.kl; simp only [List.length_append, List.length_cons, List.length_nil] at k1 ⊢; omega, HB9.out⟩⟩
                  case measure => simp [lenOf]; omega
            | false =>
              have hkin : kIn op (k :: K) = k :: K := by unfold kIn; rw [if_neg (by rw [hopn]; intro q; rcases q with q | q; cases q; exact e5 q), hko]
              rw [hkin] at HPR3
              clear e11 e5 hko hkin HPR2
              by_cases h4096 : 4096 ≤ nL
              · have HRV : Hid (R = ([], 0, 4)) := by
                  have h := HPR3.out
                  rw [if_pos (.inl h4096)] at h
                  exact h.symm
                have t9 : decide ((4096 : Int) ≤ (nL : Int)) = true := decide_eq_true (by omega)
                have t9' : decide (4096 ≤ nL) = true := decide_eq_true h4096
                clear h4096
                go_wp2_with fail
                exact bodyPost_ret (v := .tuple #[.slice none 0 0, .int .i64 0, .int .i64 4]) (by simp [results, Tryd.results14, go_sem]) rfl ⟨_, [], by rw [HRV.out], InRow.nil _, by rw [HRV.out]; rfl, HBY.out⟩
              · have t9 : decide ((4096 : Int) ≤ (nL : Int)) = false := decide_eq_false (by omega)
                have t9' : decide (4096 ≤ nL) = false := decide_eq_false h4096
                by_cases hdeep : 32 < nK + 1
                · have HRV : Hid (R = ([], 0, 4)) := by
                    have h := HPR3.out
                    rw [if_pos (.inr hdeep)] at h
                    exact h.symm
                  have t10 : decide ((32 : Int) < (nK + 1 : Int)) = true := decide_eq_true (by omega)
                  have t10' : decide (32 < nK + 1) = true := decide_eq_true hdeep
                  clear h4096 hdeep
                  go_wp2_with fail
                  exact bodyPost_ret (v := .tuple #[.slice none 0 0, .int .i64 0, .int .i64 4]) (by simp [results, Tryd.results14, go_sem]) rfl ⟨_, [], by rw [HRV.out], InRow.nil _, by rw [HRV.out]; rfl, HBY.out⟩
                · have HRV : Hid (drd b f behind (insL L ++ [⟨op, XA, XB, XK, XL⟩]) (k :: K) = R) := by
                    have h := HPR3.out
                    rw [if_neg (fun q => q.elim h4096 hdeep)] at h
                    exact h
                  have t10 : decide ((32 : Int) < (nK + 1 : Int)) = false := decide_eq_false (by omega)
                  have t10' : decide (32 < nK + 1) = false := decide_eq_false hdeep
                  have HLT := Lib.hid (show nL < 4096 by omega)
                  clear h4096 hdeep
                  have HLabB := Lib.hid (HLabA.out)
                  have HSTK := Lib.hid (HK4.out)
                  go_wp2_with (at_builtin; refine wp_oneR _ rfl (.tmp 73) (.tmp 75) rfl w.heap.size _ L (⟨op, XA, XB, XK, XL⟩, .slice PX nX cX) ⟨_, _, _, rfl⟩ rfl HR4.out (by rw [size_new]; rfl) (by have := HM.out.len; omega) HBY.out.size ?_; intro v7 w7 ho7 hb7 hk7; have HO7 := Lib.hid ho7; have HB7 := Lib.hid (HBY.out.trans hb7); have HSTK7 := Lib.hid (ownI_apartR HSTK.out HR4.out hk7); have HLab7 := Lib.hid (HLabB.out.row HR4.out hk7); have HC7 := Lib.hid ((hk7 _ (lt_of_heap HC9.out) (fun e => by have h1 := (World.ownsRow.lt HM.out.row _ e.symm).2; have h2 := HWS.out; omega)).trans HC9.out); clear ho7 hb7 hk7; obtain ⟨P7, c7', hv7⟩ := OwnR.form HO7.out; rw [show (L ++ [((⟨op, XA, XB, XK, XL⟩ : Ins), (Value.slice PX nX cX))]).length = nL + 1 from by rw [List.length_append, HNL.out]; rfl] at hv7; subst hv7; have x0 := (cells_at HC7.out 0).1; have x1 := (cells_at HC7.out 1).1; have x2 := (cells_at HC7.out 2).1; have x3 := (cells_at HC7.out 3).1; have x4 := (cells_at HC7.out 4).1; simp only [List.getElem?_toArray, List.getElem?_cons_zero, List.getElem?_cons_succ] at x0 x1 x2 x3 x4)
                  refine (opens_any op XA XB XK PX nX cX w7).mono ?_
                  rintro en w8 ⟨rfl, hb8⟩
                  rw [hopn]
                  have HO8 := Lib.hid (HO7.out.keep hb8)
                  have HB8 := Lib.hid (HB7.out.trans (hb8.mono HB7.out.size))
                  have HSTK8 := Lib.hid (HSTK7.out.keep hb8)
                  have HLab8 := Lib.hid (HLab7.out.keep hb8)
                  have HC8 := Lib.hid ((hb8.block _ (lt_of_heap HC7.out)).trans HC7.out)
                  clear hb8 x0 x1 x2 x3 x4
                  have x0 := (cells_at HC8.out 0).1
                  simp only [List.getElem?_toArray, List.getElem?_cons_zero] at x0
                  go_wp2_with fail
                  go_roundw
                  case rel => exact ⟨f, behind, L ++ [(⟨op, XA, XB, XK, XL⟩, .slice PX nX cX)], (k :: K), rfl, ⟨by rw [← HRV.out]; simp [insL], by have := HM.out.f; rw [List.length_append]; simp; omega, by have k1 := HNL.out; have k2 := HLT.out; simp only [List.length_append, List.length_cons, List.length_nil]; omega, HO8.out, HLab8.out, by rw [show (k :: K).reverse = (k :: K).reverse from rfl]; exact HSTK8.out, by have k1 := HM.out.kl; simp only [List.length_append, List.length_cons, List.length_nil] at k1 ⊢; omega, HB8.out⟩⟩
                  case measure => simp [lenOf]; omega
    · have HRV : Hid (R = ([], 0, er)) := by
        have h := HPR.out
        rw [if_pos he] at h
        exact h.symm
      have t1 : (er != 0) = true := by simpa using he
      clear he HPR
      go_wp2_with fail
      exact bodyPost_ret (v := .tuple #[.slice none 0 0, .int .i64 0, .int .i64 er]) (by simp [results, Tryd.results14, go_sem]) rfl ⟨_, [], by rw [HRV.out], InRow.nil _, by rw [HRV.out]; rfl, HBY.out⟩
end Go.Proofs.YtdmidagcdhhlhaaDoor.Bod
