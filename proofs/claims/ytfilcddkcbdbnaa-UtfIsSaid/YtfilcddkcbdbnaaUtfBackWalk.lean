/- UtfBack walked: a text's numbers are laid as it was; numbers that have bytes are told again. -/
import Derived.Test.YtfilcddkcbdbnaaUtfCame
namespace Go.Proofs.Ytfilcddkcbdbnaa.Utf
open Go.RowKit
set_option maxRecDepth 100000
set_option maxHeartbeats 1000000

theorem txt_flat {b x : List Int} (h : Txt b x) : x.flatMap enc = b := h.2.symm
theorem txt_byte {b x : List Int} (h : Txt b x) : ∀ y ∈ b, 0 ≤ y ∧ y < 256 := by
  intro y hy
  rw [h.2] at hy
  obtain ⟨v, hv, hy⟩ := List.mem_flatMap.1 hy
  exact enc_byte (h.1 v hv) y hy
theorem txt_len {b x : List Int} (h : Txt b x) : x.length ≤ b.length := by
  rw [h.2]
  clear h
  induction x with
  | nil => simp
  | cons v x ih =>
    have := (enc_len v).1
    simp only [List.flatMap_cons, List.length_append, List.length_cons]
    omega
theorem back_core (v u : Value) (l n : List Int) (w : World) (hb : ∀ x ∈ l, 0 ≤ x ∧ x < 256) (hv : Sl w v l) (hl : l.length ≤ 500) (hu : SlI w u n) (hn : n.length ≤ 200) :
    Calls Try.prog 4 #[v, u] w fun e w' => e = .returned (.bool true) ∧ Below w.heap.size w w' := by
  have HV := Lib.hid hv
  have HU := Lib.hid hu
  have Hb := Lib.hid hb
  obtain ⟨A, c, rfl, _⟩ := hv
  obtain ⟨A2, c2, rfl, _⟩ := hu
  clear hb
  have t1 : decide ((500 : Int) < (l.length : Int)) = false := by simp; omega
  have t2 : decide ((200 : Int) < (n.length : Int)) = false := by simp; omega
  go_enter Try.func4, Try.ntmps4
  go_wp2_with fail
  refine (awake_any _).mono ?_
  rintro e w1 ⟨rfl, hb1⟩
  have HB1 := Lib.hid hb1
  clear hb1
  go_wp2_with fail
  refine (prunes_any _ l w1 Hb.out (HV.out.keep HB1.out) (by omega)).mono ?_
  rintro e w2 ⟨(⟨o, x, ht, rfl, ho⟩ | ⟨hno, rfl⟩), hb2⟩
  · have HB2 := Lib.hid (HB1.out.trans (hb2.mono HB1.out.size))
    have HT := Lib.hid ht
    have hxl : x.length ≤ 500 := Nat.le_trans (txt_len ht) hl
    have HX := Lib.hid ho.sl
    clear hb2 ht ho
    go_wp2_with fail
    refine (pfrom_any _ x w2 HX.out (by omega)).mono ?_
    rintro e w3 ⟨(⟨hall, o3, rfl, ho3⟩ | ⟨⟨y, hy, hny⟩, rfl⟩), hb3⟩
    · have HB3 := Lib.hid (HB2.out.trans (hb3.mono HB2.out.size))
      rw [txt_flat HT.out] at ho3
      have HS := Lib.hid ho3.sl
      have hc1 := sl_txt HS.out
      have hc2 := sl_txt (HV.out.keep HB3.out)
      have HP := Lib.hid (pvalid_any _ l w3 Hb.out (HV.out.keep HB3.out))
      rw [isT_true HT.out] at HP
      clear hb3 ho3 hall
      go_wp2_with fail
      refine HP.out.mono ?_
      rintro e w4 ⟨rfl, hb4⟩
      have HB4 := Lib.hid (HB3.out.trans (hb4.mono HB3.out.size))
      clear hb4 hc1 hc2
      go_wp2_with fail
      refine (pfrom_any _ n w4 (HU.out.keep HB4.out) (by omega)).mono ?_
      rintro e w5 ⟨(⟨hall, o5, rfl, ho5⟩ | ⟨_, rfl⟩), hb5⟩
      · have HB5 := Lib.hid (HB4.out.trans (hb5.mono HB4.out.size))
        have hT5 : Txt (n.flatMap enc) n := ⟨hall, rfl⟩
        have hq := flat_len n
        have HY5 := Lib.hid (txt_byte hT5)
        have HT5 := Lib.hid hT5
        have HS5 := Lib.hid ho5.sl
        clear hb5 ho5 hall hT5
        revert HT5 HY5 HS5 hq
        generalize n.flatMap enc = q
        intro hq HY5 HT5 HS5
        go_wp2_with fail
        refine (prunes_any _ q w5 HY5.out HS5.out (by omega)).mono ?_
        rintro e w6 ⟨(⟨o6, x6, ht6, rfl, ho6⟩ | ⟨hn6, rfl⟩), hb6⟩
        · obtain rfl := Txt.one ht6 HT5.out
          have HB6 := Lib.hid (HB5.out.trans (hb6.mono HB5.out.size))
          have HI := Lib.hid (ints_any _ _ x6 x6 w6 ho6.sl (HU.out.keep HB6.out))
          rw [decide_eq_true (show x6 = x6 from rfl)] at HI
          have HS6 := Lib.hid (HS5.out.keep hb6)
          clear ht6 hb6 ho6
          go_wp2_with fail
          refine HI.out.mono ?_
          rintro e w7 ⟨rfl, hst⟩
          have HB7 := Lib.hid (HB6.out.trans (hst.below.mono HB6.out.size))
          have HS7 := Lib.hid (HS6.out.keep hst.below)
          clear hst
          go_wp2_with fail
          refine (pvalid_any _ q w7 HY5.out HS7.out).mono ?_
          rw [isT_true HT5.out]
          rintro e w8 ⟨rfl, hb8⟩
          have HB8 := Lib.hid (HB7.out.trans (hb8.mono HB7.out.size))
          clear hb8
          go_wp2_with fail
          go_ret
          exact ⟨rfl, HB8.out⟩
        · exact absurd HT5.out (hn6 _)
      · have HB5 := Lib.hid (HB4.out.trans (hb5.mono HB4.out.size))
        clear hb5
        go_wp2_with fail
        refine (prunes_any (.slice none 0 0) [] w5 (by simp) (Sl.nil w5) (by simp)).mono ?_
        rintro e w6 ⟨(⟨o6, x6, ht6, rfl, ho6⟩ | ⟨hn6, rfl⟩), hb6⟩
        · have HB6 := Lib.hid (HB5.out.trans (hb6.mono HB5.out.size))
          clear hb6 ht6 ho6
          go_wp2_with fail
          go_ret
          exact ⟨rfl, HB6.out⟩
        · have HB6 := Lib.hid (HB5.out.trans (hb6.mono HB5.out.size))
          clear hb6 hn6
          go_wp2_with fail
          go_ret
          exact ⟨rfl, HB6.out⟩
    · exact absurd (HT.out.1 y hy) hny
  · have HB2 := Lib.hid (HB1.out.trans (hb2.mono HB1.out.size))
    have HN := Lib.hid hno
    clear hb2 hno
    go_wp2_with fail
    refine (pfrom_any (.slice none 0 0) [] w2 ⟨none, 0, rfl, Nat.le_refl _, by omega, fun h => absurd rfl h⟩ (by simp)).mono ?_
    rintro e w3 ⟨(⟨hall, o3, rfl, ho3⟩ | ⟨⟨y, hy, hny⟩, rfl⟩), hb3⟩
    · have HB3 := Lib.hid (HB2.out.trans (hb3.mono HB2.out.size))
      have HP := Lib.hid (pvalid_any _ l w3 Hb.out (HV.out.keep HB3.out))
      rw [isT_false HN.out] at HP
      clear hb3 ho3 hall
      go_wp2_with fail
      refine HP.out.mono ?_
      rintro e w4 ⟨rfl, hb4⟩
      have HB4 := Lib.hid (HB3.out.trans (hb4.mono HB3.out.size))
      clear hb4
      go_wp2_with fail
      refine (pfrom_any _ n w4 (HU.out.keep HB4.out) (by omega)).mono ?_
      rintro e w5 ⟨(⟨hall, o5, rfl, ho5⟩ | ⟨_, rfl⟩), hb5⟩
      · have HB5 := Lib.hid (HB4.out.trans (hb5.mono HB4.out.size))
        have hT5 : Txt (n.flatMap enc) n := ⟨hall, rfl⟩
        have hq := flat_len n
        have HY5 := Lib.hid (txt_byte hT5)
        have HT5 := Lib.hid hT5
        have HS5 := Lib.hid ho5.sl
        clear hb5 ho5 hall hT5
        revert HT5 HY5 HS5 hq
        generalize n.flatMap enc = q
        intro hq HY5 HT5 HS5
        go_wp2_with fail
        refine (prunes_any _ q w5 HY5.out HS5.out (by omega)).mono ?_
        rintro e w6 ⟨(⟨o6, x6, ht6, rfl, ho6⟩ | ⟨hn6, rfl⟩), hb6⟩
        · obtain rfl := Txt.one ht6 HT5.out
          have HB6 := Lib.hid (HB5.out.trans (hb6.mono HB5.out.size))
          have HI := Lib.hid (ints_any _ _ x6 x6 w6 ho6.sl (HU.out.keep HB6.out))
          rw [decide_eq_true (show x6 = x6 from rfl)] at HI
          have HS6 := Lib.hid (HS5.out.keep hb6)
          clear ht6 hb6 ho6
          go_wp2_with fail
          refine HI.out.mono ?_
          rintro e w7 ⟨rfl, hst⟩
          have HB7 := Lib.hid (HB6.out.trans (hst.below.mono HB6.out.size))
          have HS7 := Lib.hid (HS6.out.keep hst.below)
          clear hst
          go_wp2_with fail
          refine (pvalid_any _ q w7 HY5.out HS7.out).mono ?_
          rw [isT_true HT5.out]
          rintro e w8 ⟨rfl, hb8⟩
          have HB8 := Lib.hid (HB7.out.trans (hb8.mono HB7.out.size))
          clear hb8
          go_wp2_with fail
          go_ret
          exact ⟨rfl, HB8.out⟩
        · exact absurd HT5.out (hn6 _)
      · have HB5 := Lib.hid (HB4.out.trans (hb5.mono HB4.out.size))
        clear hb5
        go_wp2_with fail
        refine (prunes_any (.slice none 0 0) [] w5 (by simp) (Sl.nil w5) (by simp)).mono ?_
        rintro e w6 ⟨(⟨o6, x6, ht6, rfl, ho6⟩ | ⟨hn6, rfl⟩), hb6⟩
        · have HB6 := Lib.hid (HB5.out.trans (hb6.mono HB5.out.size))
          clear hb6 ht6 ho6
          go_wp2_with fail
          go_ret
          exact ⟨rfl, HB6.out⟩
        · have HB6 := Lib.hid (HB5.out.trans (hb6.mono HB5.out.size))
          clear hb6 hn6
          go_wp2_with fail
          go_ret
          exact ⟨rfl, HB6.out⟩
    · simp at hy
theorem back_big (A A2 : Option Addr) (n c n2 c2 : Nat) (w : World) (h : 500 < n ∨ 200 < n2) (hm : n ≤ 9223372036854775807) (hm2 : n2 ≤ 9223372036854775807) :
    Calls Try.prog 4 #[.slice A n c, .slice A2 n2 c2] w fun e w' => e = .returned (.bool true) ∧ Below w.heap.size w w' := by
  by_cases h1 : 500 < n
  · have t1 : decide ((500 : Int) < (n : Int)) = true := by simp; omega
    clear h
    go_enter Try.func4, Try.ntmps4
    go_wp2_with fail
    refine (awake_any _).mono ?_
    rintro e w1 ⟨rfl, hb1⟩
    go_wp2_with fail
    go_ret
    exact ⟨rfl, hb1⟩
  · have t1 : decide ((500 : Int) < (n : Int)) = false := by simp; omega
    have t2 : decide ((200 : Int) < (n2 : Int)) = true := by simp; omega
    clear h h1
    go_enter Try.func4, Try.ntmps4
    go_wp2_with fail
    refine (awake_any _).mono ?_
    rintro e w1 ⟨rfl, hb1⟩
    go_wp2_with fail
    go_ret
    exact ⟨rfl, hb1⟩
theorem back_any (a a2 : Option Addr) (len cap : Nat) (zs : List Int) (len2 cap2 : Nat) (zs2 : List Int) (w : World) (h1 : Leb.Came .u8 w a len cap zs) (h2 : Leb.Came .i64 w a2 len2 cap2 zs2) :
    Calls Try.prog 4 #[.slice a len cap, .slice a2 len2 cap2] w fun e w' => e = .returned (.bool true) ∧ Below w.heap.size w w' := by
  obtain ⟨p1, p2, p3, _⟩ := came_parts h1
  obtain ⟨q1, q2, q3, _⟩ := came_parts h2
  by_cases h : 500 < len ∨ 200 < len2
  · exact back_big a a2 len cap len2 cap2 w h (by omega) (by omega)
  · exact back_core _ _ (zs.take len) (zs2.take len2) w (came_sl h1).2 (came_sl h1).1 (by omega) (came_slI h2) (by omega)
end Go.Proofs.Ytfilcddkcbdbnaa.Utf
