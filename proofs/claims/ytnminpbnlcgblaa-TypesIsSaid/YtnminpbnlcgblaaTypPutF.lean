/- A function's type, laid: by the program and by the document. -/
import Derived.Test.YtnminpbnlcgblaaTypCat
import Derived.Test.YtnminpbnlcgblaaTypSane
namespace Go.Proofs.Ytnminpbnlcgblaa.Typ
open Go.RowKit
set_option maxRecDepth 100000
set_option maxHeartbeats 1000000

/-- Bytes, and an error. -/
def LaidE (x : List Int) (n : Int) (w : World) (e : Ending) (w' : World) : Prop := ∃ v, e = .returned (.tuple #[v, .int .i64 n]) ∧ Sl w' v x ∧ Below w.heap.size w w'
theorem own_sl {w : World} {B : Nat} {v : Value} {l : List Int} (h : Leb.Own w B v l) : Sl w v l := OwnB.sl (show OwnB w B v l from h.2)
theorem own_base {w : World} {B B' : Nat} {v : Value} {l : List Int} (h : Leb.Own w B v l) (hB : B' ≤ B) : Leb.Own w B' v l := ⟨h.1, OwnB.base (show OwnB w B v l from h.2) hB⟩
theorem own_row {w : World} {B : Nat} {v : Value} {l : List Int} (h : Leb.Own w B v l) : ∃ g c, v = .slice (some ⟨g, 0, none⟩) l.length c ∧ Leb.Byt w w.heap.size (some ⟨g, 0, none⟩) l := by
  have h' := h
  obtain ⟨⟨g, c, rfl⟩, _⟩ := h'
  exact ⟨g, c, rfl, h.byt⟩
theorem uB_small_len (l : List Int) (h : l.length ≤ 100000) : (Leb.uB l.length).length ≤ 10 := by
  rw [Leb.uB_len]
  exact Leb.lenU_ten (by omega)
theorem new_byt (w : World) (x : Int) : Leb.Byt (w.alloc (.cells #[.int .u8 x] 5)) (w.alloc (.cells #[.int .u8 x] 5)).heap.size (some ⟨w.heap.size, 0, none⟩) [x] := fun _ => ⟨_, rfl, by simp, Leb.one_new w _⟩
theorem putVals_any (A A2 : Option Addr) (c c2 : Nat) (b l : List Int) (w : World) (hA : Leb.Byt w w.heap.size A b) (hA2 : Leb.Byt w w.heap.size A2 l) (hb : b.length ≤ 100000) (hl : l.length ≤ 100000) :
    Calls Try.prog 34 #[.slice A b.length c, .slice A2 l.length c2] w (Leb.Laid w (b ++ Leb.uB l.length ++ l)) := by
  have HU := Lib.hid (Leb.U_any A c l.length b w hA (by omega) (by omega))
  have HA2 := Lib.hid hA2
  have hw : IntKind.u64.wrap (l.length : Int) = (l.length : Int) := by rw [IntKind.wrap_u64]; omega
  have hlen : Hid ((b ++ Leb.uB l.length).length + l.length ≤ 10000000) := by
    show _ ≤ _
    have := uB_small_len l hl
    rw [List.length_append]
    omega
  clear hA hA2
  go_enter Try.func34, Try.ntmps34
  go_wp2_with fail
  refine HU.out.mono ?_
  rintro e w1 ⟨v1, rfl, ho1, hb1⟩
  have HO := Lib.hid ho1
  have HB := Lib.hid hb1
  have hsz : w.heap.size ≤ w1.heap.size := hb1.size
  clear ho1 hb1
  go_wp2_with (at_builtin; refine Leb.wp_bytes w1 rfl (.tmp 9) (.tmp 10) rfl w.heap.size w.heap.size _ (b ++ Leb.uB l.length) l rfl HO.out A2 c2 rfl (HA2.out.keep HB.out) hlen.out hsz ?_; intro v2 w2 ho2 hb2)
  go_ret
  exact ⟨_, rfl, ho2, HB.out.trans hb2⟩
/-- The bytes of a function's type. -/
def fnB (p r : List Int) : List Int := [96] ++ Leb.uB p.length ++ p ++ Leb.uB r.length ++ r
theorem sane_parts {p r : List Int} (h : sane p r = true) : p.length ≤ 16 ∧ r.length ≤ 1 ∧ allV p = true ∧ allV r = true := by
  unfold sane at h
  by_cases h1 : p.length ≤ 16
  · by_cases h2 : r.length ≤ 1
    · rw [decide_eq_true h1, decide_eq_true h2] at h
      cases h3 : allV p with
      | true => rw [h3] at h; exact ⟨h1, h2, rfl, h⟩
      | false => rw [h3] at h; cases h
    · rw [decide_eq_true h1, decide_eq_false h2] at h; cases h
  · rw [decide_eq_false h1] at h; cases h
theorem sane_mk {p r : List Int} (h1 : p.length ≤ 16) (h2 : r.length ≤ 1) (h3 : allV p = true) (h4 : allV r = true) : sane p r = true := by
  unfold sane
  rw [decide_eq_true h1, decide_eq_true h2, h3, h4]; rfl
def PfIs (b p r : List Int) (w : World) (e : Ending) (w' : World) : Prop := bif sane p r then LaidE (b ++ fnB p r) 0 w e w' else e = .returned (.tuple #[.slice none 0 0, .int .i64 1]) ∧ Below w.heap.size w w'
theorem putFunc_no (v x y : Value) (b p r : List Int) (w : World) (hx : Sl w x p) (hy : Sl w y r) (hp : p.length ≤ 100000) (hr : r.length ≤ 100000) (h : sane p r = false) : Calls Try.prog 18 #[v, .agg #[x, y]] w (PfIs b p r w) := by
  unfold PfIs
  rw [h]
  obtain ⟨A1, c1, rfl, _⟩ := id hx
  obtain ⟨A2, c2, rfl, _⟩ := id hy
  have hW : Below w.heap.size w (w.alloc (.cells #[.slice A1 p.length c1, .slice A2 r.length c2] 24)) := (Below.refl _ _).alloc (Nat.le_refl _) _
  have HS := Lib.hid (sane_any _ _ p r _ (hx.keep hW) (hy.keep hW) (by omega) (by omega))
  rw [h] at HS
  have HW := Lib.hid hW
  clear hx hy h hW
  go_enter Try.func18, Try.ntmps18
  go_wp2_with fail
  refine HS.out.mono ?_
  rintro e w1 ⟨rfl, hb⟩
  have HB := Lib.hid (HW.out.trans (hb.mono HW.out.size))
  clear hb
  go_wp2_with fail
  go_ret2
  exact ⟨rfl, HB.out⟩
theorem putFunc_core (A0 A1 A2 : Option Addr) (nb np nr c0 c1 c2 : Nat) (L2 L3 L4 : List Int) (w : World)
    (h0 : ∀ W, Below w.heap.size w W → Calls Try.prog 22 #[.agg #[.slice A1 np c1, .slice A2 nr c2]] W fun e w' => e = .returned (.bool true) ∧ Below W.heap.size W w')
    (h1 : ∀ W, Below w.heap.size w W → Calls Try.prog 34 #[.slice (some ⟨W.heap.size, 0, none⟩) 1 1, .slice A1 np c1] (W.alloc (.cells #[.int .u8 96] 5)) (Leb.Laid (W.alloc (.cells #[.int .u8 96] 5)) L2))
    (h2 : ∀ W g n d, Below w.heap.size w W → Leb.Own W w.heap.size (.slice (some ⟨g, 0, none⟩) n d) L2 → Calls Try.prog 34 #[.slice (some ⟨g, 0, none⟩) n d, .slice A2 nr c2] W (Leb.Laid W L3))
    (h3 : ∀ W g n d, Below w.heap.size w W → Leb.Own W w.heap.size (.slice (some ⟨g, 0, none⟩) n d) L3 → Calls Try.prog 35 #[.slice (some ⟨W.heap.size, 0, none⟩) 2 2] (W.alloc (.cells #[.slice A0 nb c0, .slice (some ⟨g, 0, none⟩) n d] 22)) (Leb.Laid (W.alloc (.cells #[.slice A0 nb c0, .slice (some ⟨g, 0, none⟩) n d] 22)) L4)) :
    Calls Try.prog 18 #[.slice A0 nb c0, .agg #[.slice A1 np c1, .slice A2 nr c2]] w (LaidE L4 0 w) := by
  have hW : Below w.heap.size w (w.alloc (.cells #[.slice A1 np c1, .slice A2 nr c2] 24)) := (Below.refl _ _).alloc (Nat.le_refl _) _
  have HS := Lib.hid (h0 _ hW)
  have H1 := Lib.hid h1
  have H2 := Lib.hid h2
  have H3 := Lib.hid h3
  clear h0 h1 h2 h3 hW
  go_enter Try.func18, Try.ntmps18
  go_wp2_with fail
  refine HS.out.mono ?_
  rintro e w1 ⟨rfl, hb1⟩
  obtain ⟨k0, k1, f0, f1, hz, hb2⟩ := two_cells hb1
  have HB := Lib.hid hb2
  clear hb1 hb2
  go_wp2_with fail
  refine (H1.out _ HB.out).mono ?_
  rintro e w2 ⟨v2, rfl, ho2, hb2⟩
  have HB2 := Lib.hid (((Below.refl w1.heap.size w1).alloc (Nat.le_refl _) (.cells #[.int .u8 96] 5)).trans (hb2.mono (by simp)))
  have k1 := (HB2.out.cell (p := ⟨w.heap.size, 1, none⟩) hz).trans k1
  have hz2 : w.heap.size < w2.heap.size := Nat.lt_of_lt_of_le hz HB2.out.size
  have HW2 := Lib.hid (HB.out.trans (HB2.out.mono (Nat.le_of_lt hz)))
  have HO2 := Lib.hid (own_base ho2 (B' := w.heap.size) (by simp; omega))
  obtain ⟨⟨g2, d2, rfl⟩, _⟩ := ho2
  clear hb2 k0
  go_wp2_with fail
  refine (H2.out _ _ _ _ HW2.out HO2.out).mono ?_
  rintro e w3 ⟨v3, rfl, ho3, hb3⟩
  have HW3 := Lib.hid (HW2.out.trans (hb3.mono (Nat.le_of_lt hz2)))
  have HO3 := Lib.hid (own_base ho3 (B' := w.heap.size) (by omega))
  obtain ⟨⟨g3, d3, rfl⟩, _⟩ := ho3
  clear hb3
  go_wp2_with fail
  refine (H3.out _ _ _ _ HW3.out HO3.out).mono ?_
  rintro e w4 ⟨v4, rfl, ho4, hb4⟩
  have HS4 := Lib.hid (own_sl ho4)
  have HB4 := Lib.hid (HW3.out.trans (((Below.refl w3.heap.size w3).alloc (Nat.le_refl _) (.cells #[.slice A0 nb c0, .slice (some ⟨g3, 0, none⟩) L3.length d3] 22)).trans (hb4.mono (by simp)) |>.mono HW3.out.size))
  obtain ⟨⟨g4, d4, rfl⟩, _⟩ := ho4
  clear hb4
  go_wp2_with fail
  go_ret2
  exact ⟨_, rfl, HS4.out, HB4.out⟩
theorem own_len {w : World} {B n d g : Nat} {l : List Int} (h : Leb.Own w B (.slice (some ⟨g, 0, none⟩) n d) l) : n = l.length := by
  obtain ⟨⟨_, _, e⟩, _⟩ := h
  injection e
theorem putFunc_yes (v x y : Value) (b p r : List Int) (w : World) (hv : Sl w v b) (hx : Sl w x p) (hy : Sl w y r) (hb : b.length ≤ 10000) (h : sane p r = true) : Calls Try.prog 18 #[v, .agg #[x, y]] w (PfIs b p r w) := by
  unfold PfIs
  rw [h]
  obtain ⟨q1, q2, _, _⟩ := sane_parts h
  obtain ⟨A0, c0, rfl, _⟩ := id hv
  obtain ⟨A1, c1, rfl, _⟩ := id hx
  obtain ⟨A2, c2, rfl, _⟩ := id hy
  have l1 := uB_small_len p (by omega)
  have l2 := uB_small_len r (by omega)
  have hl2 : ([96] ++ Leb.uB p.length ++ p).length ≤ 1000 := by
    rw [List.length_append, List.length_append]
    simp
    omega
  have hl3 : ([96] ++ Leb.uB p.length ++ p ++ Leb.uB r.length ++ r).length ≤ 2000 := by
    simp only [List.length_append] at hl2 ⊢
    omega
  refine putFunc_core A0 A1 A2 _ _ _ c0 c1 c2 ([96] ++ Leb.uB p.length ++ p) (fnB p r) (b ++ fnB p r) w (fun W hW => ?_) (fun W hW => ?_) (fun W g n d hW ho => ?_) (fun W g n d hW ho => ?_)
  · have := sane_any _ _ p r W (hx.keep hW) (hy.keep hW) (by omega) (by omega)
    rwa [h] at this
  · exact putVals_any (some ⟨W.heap.size, 0, none⟩) A1 1 c1 [96] p _ (new_byt W 96) ((hx.keep hW).keep ((Below.refl _ _).alloc (Nat.le_refl _) _)).leb (by simp) (by omega)
  · obtain rfl := own_len ho
    exact putVals_any (some ⟨g, 0, none⟩) A2 d c2 _ r W ho.byt (hy.keep hW).leb (by omega) (by omega)
  · obtain rfl := own_len ho
    have hM : Below W.heap.size W (W.alloc (.cells #[.slice A0 b.length c0, .slice (some ⟨g, 0, none⟩) (fnB p r).length d] 22)) := (Below.refl _ _).alloc (Nat.le_refl _) _
    refine concat_any W.heap.size A0 (some ⟨g, 0, none⟩) c0 d b (fnB p r) _ (by simp) (by simp) (by simp) ((hv.keep hW).keep hM).leb ((ho.byt.keep hM).mono hM.size) (by omega) (by unfold fnB; omega) ?_
    have : 1 ≤ (fnB p r).length := by unfold fnB; simp
    omega
theorem putFunc_any (v x y : Value) (b p r : List Int) (w : World) (hv : Sl w v b) (hx : Sl w x p) (hy : Sl w y r) (hb : b.length ≤ 10000) (hp : p.length ≤ 100000) (hr : r.length ≤ 100000) : Calls Try.prog 18 #[v, .agg #[x, y]] w (PfIs b p r w) := by
  cases h : sane p r with
  | true => exact putFunc_yes v x y b p r w hv hx hy hb h
  | false => exact putFunc_no v x y b p r w hx hy hp hr h
theorem rputFunc_no (v x y : Value) (b p r : List Int) (w : World) (hx : Sl w x p) (hy : Sl w y r) (hp : p.length ≤ 100000) (hr : r.length ≤ 100000) (h : sane p r = false) : Calls Try.prog 19 #[v, .agg #[x, y]] w (PfIs b p r w) := by
  unfold PfIs
  rw [h]
  obtain ⟨A1, c1, rfl, _⟩ := id hx
  obtain ⟨A2, c2, rfl, _⟩ := id hy
  have hW : Below w.heap.size w (w.alloc (.cells #[.slice A1 p.length c1, .slice A2 r.length c2] 24)) := (Below.refl _ _).alloc (Nat.le_refl _) _
  have HS := Lib.hid (rsane_any _ _ p r _ (hx.keep hW) (hy.keep hW) (by omega) (by omega))
  rw [h] at HS
  have HW := Lib.hid hW
  clear hx hy h hW
  go_enter Try.func19, Try.ntmps19
  go_wp2_with fail
  refine HS.out.mono ?_
  rintro e w1 ⟨rfl, hb⟩
  have HB := Lib.hid (HW.out.trans (hb.mono HW.out.size))
  clear hb
  go_wp2_with fail
  go_ret2
  exact ⟨rfl, HB.out⟩
theorem rputFunc_core (A0 A1 A2 : Option Addr) (c0 c1 c2 : Nat) (b p r K1 K2 : List Int) (w : World) (hb : b.length ≤ 10000) (hp : p.length ≤ 16) (hr : r.length ≤ 16) (hk1 : K1.length ≤ 10100) (hk2 : K2.length ≤ 10200)
    (b0 : Leb.Byt w w.heap.size A0 b) (b1 : Leb.Byt w w.heap.size A1 p) (b2 : Leb.Byt w w.heap.size A2 r)
    (h0 : ∀ W, Below w.heap.size w W → Calls Try.prog 23 #[.agg #[.slice A1 p.length c1, .slice A2 r.length c2]] W fun e w' => e = .returned (.bool true) ∧ Below W.heap.size W w')
    (h1 : ∀ W B v, Below w.heap.size w W → Leb.Own W B v ([] ++ b ++ [96]) → Calls Try.prog 36 #[v, .int .u64 (p.length : Int)] W (Leb.Laid W K1))
    (h2 : ∀ W B v, Below w.heap.size w W → Leb.Own W B v (K1 ++ p) → Calls Try.prog 36 #[v, .int .u64 (r.length : Int)] W (Leb.Laid W K2)) :
    Calls Try.prog 19 #[.slice A0 b.length c0, .agg #[.slice A1 p.length c1, .slice A2 r.length c2]] w (LaidE (K2 ++ r) 0 w) := by
  have hW : Below w.heap.size w (w.alloc (.cells #[.slice A1 p.length c1, .slice A2 r.length c2] 24)) := (Below.refl _ _).alloc (Nat.le_refl _) _
  have HS := Lib.hid (h0 _ hW)
  have H1 := Lib.hid h1
  have H2 := Lib.hid h2
  have HA0 := Lib.hid b0
  have HA1 := Lib.hid b1
  have HA2 := Lib.hid b2
  have hw1 : IntKind.u64.wrap (p.length : Int) = (p.length : Int) := by rw [IntKind.wrap_u64]; omega
  have hw2 : IntKind.u64.wrap (r.length : Int) = (r.length : Int) := by rw [IntKind.wrap_u64]; omega
  clear h0 h1 h2 hW b0 b1 b2
  go_enter Try.func19, Try.ntmps19
  go_wp2_with fail
  refine HS.out.mono ?_
  rintro e w1 ⟨rfl, hb1⟩
  obtain ⟨k0, k1, f0, f1, hz, hb2⟩ := two_cells hb1
  have HB := Lib.hid hb2
  clear hb1 hb2
  go_wp2_with (at_builtin; refine Leb.wp_bytes _ rfl (.tmp 10) (.tmp 11) rfl w1.heap.size w.heap.size _ [] b rfl (Leb.own_none w1) A0 c0 rfl (HA0.out.keep (HB.out.trans ((Below.refl _ _).alloc (Nat.le_of_lt hz) _))) (by simp; omega) (by simp) ?_; intro v2 w2 ho2 hb2; have HO2 := Lib.hid ho2; have HB2 := Lib.hid (((Below.refl w1.heap.size w1).alloc (Nat.le_refl _) (.cells #[] 5)).trans hb2); have hs2 : w1.heap.size ≤ w2.heap.size := HB2.out.size; clear ho2 hb2; go_wp2_with (at_builtin; refine Leb.wp_byte w2 rfl (.tmp 13) (.tmp 14) rfl w1.heap.size _ ([] ++ b) 96 rfl HO2.out rfl (by simp; omega) hs2 ?_; intro v3 w3 ho3 hb3; have HO3 := Lib.hid ho3; have HB3 := Lib.hid (HB2.out.trans hb3); have k0 := (HB3.out.cell (p := ⟨w.heap.size, 0, none⟩) hz).trans k0; have k1 := (HB3.out.cell (p := ⟨w.heap.size, 1, none⟩) hz).trans k1; clear ho3 hb3))
  have HW3 := Lib.hid (HB.out.trans (HB3.out.mono (Nat.le_of_lt hz)))
  refine (H1.out _ _ _ HW3.out HO3.out).mono ?_
  rintro e w4 ⟨v4, rfl, ho4, hb4⟩
  have HO4 := Lib.hid ho4
  have HW4 := Lib.hid (HW3.out.trans (hb4.mono HW3.out.size))
  have hz3 : w.heap.size < w3.heap.size := Nat.lt_of_lt_of_le hz HB3.out.size
  have k0 := (hb4.cell (p := ⟨w.heap.size, 0, none⟩) hz3).trans k0
  have k1 := (hb4.cell (p := ⟨w.heap.size, 1, none⟩) hz3).trans k1
  have hs4 : w3.heap.size ≤ w4.heap.size := hb4.size
  have hz4 : w.heap.size < w3.heap.size := hz3
  clear ho4 hb4
  go_wp2_with (at_builtin; refine Leb.wp_bytes w4 rfl (.tmp 22) (.tmp 24) rfl w3.heap.size w.heap.size _ K1 p rfl HO4.out A1 c1 rfl (HA1.out.keep HW4.out) (by omega) hs4 ?_; intro v5 w5 ho5 hb5; have HO5 := Lib.hid ho5; have HW5 := Lib.hid (HW4.out.trans (hb5.mono (Nat.le_of_lt hz3))); have k1 := (hb5.cell (p := ⟨w.heap.size, 1, none⟩) hz4).trans k1; have hs5 : w4.heap.size ≤ w5.heap.size := hb5.size; clear ho5 hb5 k0)
  refine (H2.out _ _ _ HW5.out HO5.out).mono ?_
  rintro e w6 ⟨v6, rfl, ho6, hb6⟩
  have HO6 := Lib.hid ho6
  have HW6 := Lib.hid (HW5.out.trans (hb6.mono HW5.out.size))
  have hz5 : w.heap.size < w5.heap.size := by omega
  have k1 := (hb6.cell (p := ⟨w.heap.size, 1, none⟩) hz5).trans k1
  have hs6 : w5.heap.size ≤ w6.heap.size := hb6.size
  clear ho6 hb6
  go_wp2_with (at_builtin; refine Leb.wp_bytes w6 rfl (.tmp 32) (.tmp 34) rfl w5.heap.size w.heap.size _ K2 r rfl HO6.out A2 c2 rfl (HA2.out.keep HW6.out) (by omega) hs6 ?_; intro v7 w7 ho7 hb7)
  go_ret2
  exact ⟨_, rfl, own_sl ho7, HW6.out.trans (hb7.mono (Nat.le_of_lt hz5))⟩
theorem rputFunc_yes (v x y : Value) (b p r : List Int) (w : World) (hv : Sl w v b) (hx : Sl w x p) (hy : Sl w y r) (hb : b.length ≤ 10000) (h : sane p r = true) : Calls Try.prog 19 #[v, .agg #[x, y]] w (PfIs b p r w) := by
  unfold PfIs
  rw [h]
  obtain ⟨q1, q2, _, _⟩ := sane_parts h
  obtain ⟨A0, c0, rfl, _⟩ := id hv
  obtain ⟨A1, c1, rfl, _⟩ := id hx
  obtain ⟨A2, c2, rfl, _⟩ := id hy
  have l1 := uB_small_len p (by omega)
  have l2 := uB_small_len r (by omega)
  have e : b ++ fnB p r = ([] ++ b ++ [96] ++ Leb.uB p.length) ++ p ++ Leb.uB r.length ++ r := by unfold fnB; simp
  show Calls Try.prog _ _ w (LaidE (b ++ fnB p r) 0 w)
  rw [e]
  refine rputFunc_core A0 A1 A2 c0 c1 c2 b p r ([] ++ b ++ [96] ++ Leb.uB p.length) ([] ++ b ++ [96] ++ Leb.uB p.length ++ p ++ Leb.uB r.length) w hb q1 (by omega) ?_ ?_ hv.leb hx.leb hy.leb (fun W hW => ?_) (fun W B u hW ho => ?_) (fun W B u hW ho => ?_)
  · simp only [List.length_append, List.length_cons, List.length_nil]; omega
  · simp only [List.length_append, List.length_cons, List.length_nil]; omega
  · have := rsane_any _ _ p r W (hx.keep hW) (hy.keep hW) (by omega) (by omega)
    rwa [h] at this
  · obtain ⟨g, d, rfl, hB⟩ := own_row ho
    exact Leb.refU_any _ d p.length _ W hB (by simp only [List.length_append, List.length_cons, List.length_nil]; omega) (by omega)
  · obtain ⟨g, d, rfl, hB⟩ := own_row ho
    exact Leb.refU_any _ d r.length _ W hB (by simp only [List.length_append, List.length_cons, List.length_nil]; omega) (by omega)
theorem rputFunc_any (v x y : Value) (b p r : List Int) (w : World) (hv : Sl w v b) (hx : Sl w x p) (hy : Sl w y r) (hb : b.length ≤ 10000) (hp : p.length ≤ 100000) (hr : r.length ≤ 100000) : Calls Try.prog 19 #[v, .agg #[x, y]] w (PfIs b p r w) := by
  cases h : sane p r with
  | true => exact rputFunc_yes v x y b p r w hv hx hy hb h
  | false => exact rputFunc_no v x y b p r w hx hy hp hr h
end Go.Proofs.Ytnminpbnlcgblaa.Typ
