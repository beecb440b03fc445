/- UtfNames walked: a name that is laid is read, whatever stands ahead, and behind; with a byte less it is too short. -/
import Derived.Test.YtfilcddkcbdbnaaUtfBackWalk
namespace Go.Proofs.Ytfilcddkcbdbnaa.Utf
open Go.RowKit
set_option maxRecDepth 100000
set_option maxHeartbeats 1000000

theorem not_bad {l : List Int} {k : Nat} (h : k ≤ l.length) : ¬ Leb.badArg l (k : Int) 32 := by
  unfold Leb.badArg
  omega
theorem nm_at {l : List Int} {k : Nat} (h : k ≤ l.length) : nm l (k : Int) = nmK l k := by
  unfold nm
  rw [if_neg (not_bad h), Int.toNat_natCast]
theorem rdl_one (n : Nat) (h : n < 128) (t : List Int) : Leb.rdl Leb.fitU 32 (Leb.uB n ++ t) 0 0 = .ok n 7 := by
  rw [Leb.rdU_back 32 (by omega) t n n 0 0 (Nat.le_refl _) (by omega) rfl (by simp), if_pos (by omega), Leb.lenU_small h]
  rw [Nat.zero_add, Nat.pow_zero, Nat.mul_one]
theorem nm_back (a s t : List Int) (hn : s.length ≤ 64) (hf : fltE s = 0) : nm (a ++ Leb.uB s.length ++ s ++ t) (a.length : Int) = (s, ((a.length + 1 + s.length : Nat) : Int), 0) := by
  have hu : (Leb.uB s.length).length = 1 := by rw [Leb.uB_len, Leb.lenU_small (by omega)]
  rw [nm_at (by simp only [List.length_append]; omega)]
  unfold nmK
  rw [show (a ++ Leb.uB s.length ++ s ++ t).drop a.length = Leb.uB s.length ++ (s ++ t) from by rw [List.append_assoc, List.append_assoc, List.drop_left], rdl_one _ (by omega)]
  show nmA _ s.length (a.length + 7 / 7) = _
  unfold nmA
  have hd : ((a ++ Leb.uB s.length ++ s ++ t).drop (a.length + 7 / 7)).take s.length = s := by
    rw [show a.length + 7 / 7 = (a ++ Leb.uB s.length).length from by rw [List.length_append, hu], List.append_assoc (a ++ Leb.uB s.length), List.drop_left, List.take_left]
  rw [if_neg (by simp [hu]; omega), hd, hf]
  show (s, _, (0 : Int)) = _
  rw [show ((a.length + 7 / 7 : Nat) : Int) + (s.length : Int) = ((a.length + 1 + s.length : Nat) : Int) from by omega]
theorem nm_cut (a s : List Int) (hn : s.length ≤ 64) : nm ((a ++ Leb.uB s.length ++ s).take (a.length + s.length)) (a.length : Int) = ([], 0, 2) := by
  have hu : (Leb.uB s.length).length = 1 := by rw [Leb.uB_len, Leb.lenU_small (by omega)]
  have hl : ((a ++ Leb.uB s.length ++ s).take (a.length + s.length)).length = a.length + s.length := by rw [List.length_take, List.length_append, List.length_append, hu]; omega
  rw [nm_at (by omega)]
  unfold nmK
  have hd : ((a ++ Leb.uB s.length ++ s).take (a.length + s.length)).drop a.length = (Leb.uB s.length ++ s).take s.length := by
    rw [List.append_assoc, List.take_append, List.take_of_length_le (by omega), show a.length + s.length - a.length = s.length from by omega, List.drop_left]
  rw [hd]
  by_cases h0 : s.length = 0
  · rw [h0]
    rfl
  · rw [List.take_append, List.take_of_length_le (by omega), rdl_one _ (by omega)]
    show nmA _ s.length (a.length + 7 / 7) = _
    unfold nmA
    rw [if_pos (by rw [hl]; omega)]
/-- The first bytes of the call's own. -/
theorem own_head {w : World} {B : Nat} {v : Value} {q : List Int} (h : Leb.Own w B v q) : ∃ g c, v = .slice (some ⟨g, 0, none⟩) q.length c ∧ ∀ k : Nat, k ≤ q.length →
    (∀ W, (Instr.sliceAt 22 (.slice (some ⟨g, 0, none⟩) q.length c) none (some (.int .i64 (k : Int))) none).run Try.prog W = .ok (.slice (some ⟨g, 0, none⟩) k c) W) ∧ Sl w (.slice (some ⟨g, 0, none⟩) k c) (q.take k) := by
  obtain ⟨⟨g, c, e⟩, h2⟩ := h
  have hs := OwnB.sl (show OwnB w B v q from h2)
  refine ⟨g, c, e, fun k hk => ⟨fun W => ?_, ?_⟩⟩
  · rw [e] at hs
    obtain ⟨A, c', e2, hc, hm, _⟩ := hs
    injection e2 with _ _ e2
    subst e2
    have e1 : (k : Int) ≤ (c : Int) := by omega
    go_simp
  · rw [e] at hs
    obtain ⟨A, c', e2, hc, hm, h4⟩ := hs
    injection e2 with e1 _ e2
    subst e1 e2
    refine ⟨_, _, by rw [List.length_take, Nat.min_eq_left hk], by rw [List.length_take]; omega, hm, fun h0 => ?_⟩
    obtain ⟨g', off, e', hB⟩ := h4 (fun e => by rw [e] at h0; simp at h0)
    exact ⟨g', off, e', hB.take k⟩
theorem names_big (A A2 : Option Addr) (n c n2 c2 : Nat) (s : ByteArray) (w : World) (h : 100 < n ∨ 200 < s.size ∨ 100 < n2) (hm : n ≤ 9223372036854775807) (hm2 : n2 ≤ 9223372036854775807) (hs : s.size ≤ 9223372036854775807) :
    Calls Try.prog 5 #[.slice A n c, .string s, .slice A2 n2 c2] w fun e w' => e = .returned (.bool true) ∧ Below w.heap.size w w' := by
  by_cases h1 : 100 < n
  · have t1 : decide ((100 : Int) < (n : Int)) = true := by simp; omega
    clear h
    go_enter Try.func5, Try.ntmps5
    go_wp2_with fail
    refine (awake_any _).mono ?_
    rintro e w1 ⟨rfl, hb1⟩
    go_wp2_with fail
    go_ret
    exact ⟨rfl, hb1⟩
  · have t1 : decide ((100 : Int) < (n : Int)) = false := by simp; omega
    by_cases h2 : 200 < s.size
    · have t2 : decide ((200 : Int) < (s.size : Int)) = true := by simp; omega
      clear h h1
      go_enter Try.func5, Try.ntmps5
      go_wp2_with fail
      refine (awake_any _).mono ?_
      rintro e w1 ⟨rfl, hb1⟩
      go_wp2_with fail
      go_ret
      exact ⟨rfl, hb1⟩
    · have t2 : decide ((200 : Int) < (s.size : Int)) = false := by simp; omega
      have t3 : decide ((100 : Int) < (n2 : Int)) = true := by simp; omega
      clear h h1 h2
      go_enter Try.func5, Try.ntmps5
      go_wp2_with fail
      refine (awake_any _).mono ?_
      rintro e w1 ⟨rfl, hb1⟩
      go_wp2_with fail
      go_ret
      exact ⟨rfl, hb1⟩
theorem names_limit (A A2 : Option Addr) (c n2 c2 : Nat) (l : List Int) (s : ByteArray) (w : World) (hv : Sl w (.slice A l.length c) l) (hl : l.length ≤ 100) (hs : s.size ≤ 200) (hn : n2 ≤ 100) (h : 64 < s.size) :
    Calls Try.prog 5 #[.slice A l.length c, .string s, .slice A2 n2 c2] w fun e w' => e = .returned (.bool true) ∧ Below w.heap.size w w' := by
  have HV := Lib.hid hv
  have t1 : decide ((100 : Int) < (l.length : Int)) = false := by simp; omega
  have t2 : decide ((200 : Int) < (s.size : Int)) = false := by simp; omega
  have t3 : decide ((100 : Int) < (n2 : Int)) = false := by simp; omega
  have t4 : decide ((64 : Int) < (s.size : Int)) = true := by simp; omega
  have t5 : decide ((s.size : Int) ≤ 64) = false := by simp; omega
  have HF : Hid (fltE (bl s) = 4) := flt_big (by rw [bl_len]; omega)
  clear hv
  go_enter Try.func5, Try.ntmps5
  go_wp2_with fail
  refine (awake_any _).mono ?_
  rintro e w1 ⟨rfl, hb1⟩
  have HB1 := Lib.hid hb1
  clear hb1 h
  go_wp2_with fail
  refine (play_any _ l s w1 (HV.out.keep HB1.out) (by omega) (by omega)).mono ?_
  unfold LyEnds
  rw [HF.out]
  rintro e w2 ⟨(⟨h0, _⟩ | ⟨_, rfl⟩), hb2⟩
  · cases h0
  · have HB2 := Lib.hid (HB1.out.trans (hb2.mono HB1.out.size))
    clear hb2
    go_wp2_with fail
    go_ret
    exact ⟨rfl, HB2.out⟩
theorem names_form (A A2 : Option Addr) (c n2 c2 : Nat) (l : List Int) (s : ByteArray) (w : World) (hv : Sl w (.slice A l.length c) l) (hl : l.length ≤ 100) (hs : s.size ≤ 64) (hn : n2 ≤ 100) (h : isT (bl s) = false) :
    Calls Try.prog 5 #[.slice A l.length c, .string s, .slice A2 n2 c2] w fun e w' => e = .returned (.bool true) ∧ Below w.heap.size w w' := by
  have HV := Lib.hid hv
  have t1 : decide ((100 : Int) < (l.length : Int)) = false := by simp; omega
  have t2 : decide ((200 : Int) < (s.size : Int)) = false := by simp; omega
  have t3 : decide ((100 : Int) < (n2 : Int)) = false := by simp; omega
  have t4 : decide ((64 : Int) < (s.size : Int)) = false := by simp; omega
  have t5 : decide ((s.size : Int) ≤ 64) = true := by simp; omega
  have HF : Hid (fltE (bl s) = 3) := flt_form (by rw [bl_len]; omega) h
  have HT := Lib.hid h
  clear hv h
  go_enter Try.func5, Try.ntmps5
  go_wp2_with fail
  refine (awake_any _).mono ?_
  rintro e w1 ⟨rfl, hb1⟩
  have HB1 := Lib.hid hb1
  clear hb1
  go_wp2_with fail
  refine (play_any _ l s w1 (HV.out.keep HB1.out) (by omega) (by omega)).mono ?_
  unfold LyEnds
  rw [HF.out]
  rintro e w2 ⟨(⟨h0, _⟩ | ⟨_, rfl⟩), hb2⟩
  · cases h0
  · have HB2 := Lib.hid (HB1.out.trans (hb2.mono HB1.out.size))
    clear hb2
    obtain ⟨W, x, hconv, hsl, hb0⟩ := bytes_of s w2 (by omega)
    have HP := Lib.hid (pvalid_any x (bl s) W (bl_byte s) hsl)
    rw [HT.out] at HP
    have HB3 := Lib.hid (HB2.out.trans (hb0.mono HB2.out.size))
    have hconv' : (convert 9 22 (.string s)).run Try.prog w2 = .ok x W := hconv
    clear hconv hsl hb0
    go_wp2_with fail
    refine HP.out.mono ?_
    rintro e w4 ⟨rfl, hb4⟩
    have HB4 := Lib.hid (HB3.out.trans (hb4.mono HB3.out.size))
    clear hb4
    go_wp2_with fail
    go_ret
    exact ⟨rfl, HB4.out⟩
theorem names_in (A A2 : Option Addr) (c c2 : Nat) (l t : List Int) (s : ByteArray) (w : World) (hb : ∀ x ∈ l, 0 ≤ x ∧ x < 256) (hbt : ∀ x ∈ t, 0 ≤ x ∧ x < 256) (hv : Sl w (.slice A l.length c) l) (hu : Sl w (.slice A2 t.length c2) t) (hl : l.length ≤ 100) (hs : s.size ≤ 64) (hn : t.length ≤ 100) (h : isT (bl s) = true) :
    Calls Try.prog 5 #[.slice A l.length c, .string s, .slice A2 t.length c2] w fun e w' => e = .returned (.bool true) ∧ Below w.heap.size w w' := by
  have HV := Lib.hid hv
  have HLB := Lib.hid hu.leb
  have t1 : decide ((100 : Int) < (l.length : Int)) = false := by simp; omega
  have t2 : decide ((200 : Int) < (s.size : Int)) = false := by simp; omega
  have t3 : decide ((100 : Int) < (t.length : Int)) = false := by simp; omega
  have hf : fltE (bl s) = 0 := flt_txt (by rw [bl_len]; omega) h
  have HF := Lib.hid hf
  have hbl := bl_len s
  have HQL : Hid ((l ++ Leb.uB s.size ++ bl s).length = l.length + 1 + s.size) := by
    show _ = _
    rw [List.length_append, List.length_append, Leb.uB_len, Leb.lenU_small (by omega), bl_len]
  have HN1 : Hid (nm (l ++ Leb.uB s.size ++ bl s ++ t) (l.length : Int) = (bl s, ((l.length + 1 + s.size : Nat) : Int), 0)) := by
    show _ = _
    have := nm_back l (bl s) t (by omega) hf
    rw [bl_len] at this
    exact this
  have HN2 : Hid (nm ((l ++ Leb.uB s.size ++ bl s).take (l.length + s.size)) (l.length : Int) = ([], 0, 2)) := by
    show _ = _
    have := nm_cut l (bl s) (by omega)
    rw [bl_len] at this
    exact this
  have hq1 : ∀ x ∈ l ++ Leb.uB s.size ++ bl s, 0 ≤ x ∧ x < 256 := fun x hx => by
    rcases List.mem_append.1 hx with hx | hx
    · rcases List.mem_append.1 hx with hx | hx
      · exact hb x hx
      · have := Leb.uB_byte s.size x hx; omega
    · exact bl_byte s x hx
  have HQ1 := Lib.hid hq1
  have HQ2 : Hid (∀ x ∈ l ++ Leb.uB s.size ++ bl s ++ t, 0 ≤ x ∧ x < 256) := fun x hx => by
    rcases List.mem_append.1 hx with hx | hx
    · exact hq1 x hx
    · exact hbt x hx
  clear hv hu hb hbt h hf hbl hq1
  go_enter Try.func5, Try.ntmps5
  go_wp2_with fail
  refine (awake_any _).mono ?_
  rintro e w1 ⟨rfl, hb1⟩
  have HB1 := Lib.hid hb1
  clear hb1
  go_wp2_with fail
  refine (play_any _ l s w1 (HV.out.keep HB1.out) (by omega) (by omega)).mono ?_
  unfold LyEnds
  rw [HF.out, bl_len]
  rintro e w2 ⟨(⟨_, v, rfl, ho⟩ | ⟨h0, _⟩), hb2⟩
  · have HB2 := Lib.hid (HB1.out.trans (hb2.mono HB1.out.size))
    clear hb2
    revert HQ1 HQ2 HN1 HN2 HQL ho
    generalize l ++ Leb.uB s.size ++ bl s = q
    intro HQL HN1 HN2 HQ1 HQ2 ho
    have hql : q.length ≤ 200 := by have := HQL.out; omega
    have HO := Lib.hid ho
    have hoh := own_head ho
    obtain ⟨g, cp, rfl, hcut⟩ := hoh
    have HC := Lib.hid hcut
    have HLO := Lib.hid (Sl.leb (OwnB.sl (show OwnB w2 _ _ q from ho.2)))
    clear ho hcut
    go_wp2_with (at_builtin; refine Leb.wp_bytes (w2.alloc (.cells #[] 5)) rfl (.tmp 68) (.tmp 69) rfl w2.heap.size _ _ [] q rfl (Leb.own_none w2) (some ⟨g, 0, none⟩) cp rfl (HLO.out.keep ((Below.refl _ _).alloc (Nat.le_refl _) _)) (by simp; omega) (by simp) ?_; intro v4 w4 ho4 hb4; have HO4 := Lib.hid ho4; have HB4 := Lib.hid hb4; clear ho4 hb4; go_wp2_with (at_builtin; refine Leb.wp_bytes w4 rfl (.tmp 70) (.tmp 71) rfl w2.heap.size _ _ ([] ++ q) t rfl HO4.out A2 c2 rfl ((HLB.out.keep HB2.out).keep (((Below.refl _ _).alloc HB2.out.size _).trans (HB4.out.mono HB2.out.size))) (by simp; omega) (Nat.le_trans (by simp) HB4.out.size) ?_; intro v5 w5 ho5 hb5))
    have HB25 := Lib.hid (((Below.refl w2.heap.size w2).alloc (Nat.le_refl _) (.cells #[] 5)).trans (HB4.out.trans hb5))
    have HB5 := Lib.hid (HB2.out.trans (HB25.out.mono HB2.out.size))
    have HS5 := Lib.hid (OwnB.sl (show OwnB w5 w2.heap.size v5 (q ++ t) from ho5.2))
    clear ho5 hb5 HB4 HO4
    have HNa : Calls Try.prog 14 #[v5, .int .i64 (l.length : Int)] w5 fun e w' => e = .returned (.tuple #[.string s, .int .i64 (q.length : Int), .int .i64 0]) ∧ Below w5.heap.size w5 w' := by
      have h1 := pname_any v5 (q ++ t) (l.length : Int) w5 HQ2.out HS5.out (by simp; omega)
      rw [HN1.out] at h1
      refine h1.mono ?_
      rintro e w' ⟨he, hb⟩
      refine ⟨?_, hb⟩
      rw [he, str_bl, HQL.out]
    refine HNa.mono ?_
    rintro e w6 ⟨rfl, hb6⟩
    have HB26 := Lib.hid (HB25.out.trans (hb6.mono HB25.out.size))
    clear HNa hb6
    have HM : Hid (∃ m : Nat, (q.length : Int) - 1 = (m : Int) ∧ m = l.length + s.size ∧ m ≤ q.length) := ⟨l.length + s.size, by have := HQL.out; omega, rfl, by have := HQL.out; omega⟩
    obtain ⟨m, hm1, hm2, hm3⟩ := HM.out
    obtain ⟨hc1, hc2⟩ := HC.out m hm3
    have HC2 := Lib.hid hc2
    have HNb : Hid (∀ W, Below w2.heap.size w2 W → Calls Try.prog 14 #[.slice (some ⟨g, 0, none⟩) m cp, .int .i64 (l.length : Int)] W (NmIs W ([], 0, 2))) := by
      show ∀ W, _
      intro W hW
      rw [← HN2.out, ← hm2]
      exact pname_any _ (q.take m) (l.length : Int) W (fun x hx => HQ1.out x (List.mem_of_mem_take hx)) (HC2.out.keep hW) (by rw [List.length_take]; omega)
    have hmc : m ≤ cp := by
      obtain ⟨A', c', e2, h2, _⟩ := HC2.out
      injection e2 with _ e2 e3
      subst e3
      rw [← e2] at h2
      exact h2
    have HM2 := Lib.hid hm2
    clear hc2 hm2
    rcases Nat.eq_zero_or_pos m with rfl | hpos
    · have hm6 : (q.length : Int) - 1 = 0 := hm1
      have hm4 : IntKind.i64.wrap ((q.length : Int) - 1) = 0 := by rw [hm6]; rfl
      clear hm1 hc1
      go_wp2_with fail
      refine (HNb.out _ HB26.out).mono ?_
      rintro e w7 ⟨rfl, hb7⟩
      have HB7 := Lib.hid (HB2.out.trans ((HB26.out.trans (hb7.mono HB26.out.size)).mono HB2.out.size))
      clear hb7
      go_wp2_with fail
      go_ret
      exact ⟨rfl, HB7.out⟩
    · have hm4 : IntKind.i64.wrap ((q.length : Int) - 1) = (m : Int) := by rw [hm1]; exact IntWalk.i64_in _ (by omega)
      have hm5 : (0 : Int) < (m : Int) := by omega
      go_wp2_with fail
      refine (HNb.out _ HB26.out).mono ?_
      rintro e w7 ⟨rfl, hb7⟩
      have HB7 := Lib.hid (HB2.out.trans ((HB26.out.trans (hb7.mono HB26.out.size)).mono HB2.out.size))
      clear hb7
      go_wp2_with fail
      go_ret
      exact ⟨rfl, HB7.out⟩
  · exact absurd rfl h0
theorem names_any (a a2 : Option Addr) (len cap : Nat) (zs : List Int) (s : ByteArray) (len2 cap2 : Nat) (zs2 : List Int) (w : World) (h1 : Leb.Came .u8 w a len cap zs) (hs : s.size ≤ maxLen) (h2 : Leb.Came .u8 w a2 len2 cap2 zs2) :
    Calls Try.prog 5 #[.slice a len cap, .string s, .slice a2 len2 cap2] w fun e w' => e = .returned (.bool true) ∧ Below w.heap.size w w' := by
  obtain ⟨p1, p2, p3, _⟩ := came_parts h1
  obtain ⟨q1, q2, q3, _⟩ := came_parts h2
  obtain ⟨s1, b1⟩ := came_sl h1
  obtain ⟨s2, b2⟩ := came_sl h2
  unfold maxLen at hs
  by_cases h : 100 < len ∨ 200 < s.size ∨ 100 < len2
  · exact names_big a a2 len cap len2 cap2 s w h (by omega) (by omega) (by omega)
  · have key : Calls Try.prog 5 #[.slice a (zs.take len).length cap, .string s, .slice a2 (zs2.take len2).length cap2] w fun e w' => e = .returned (.bool true) ∧ Below w.heap.size w w' := by
      by_cases h64 : 64 < s.size
      · exact names_limit a a2 cap _ cap2 (zs.take len) s w (by rw [p1]; exact s1) (by omega) (by omega) (by omega) h64
      · cases hT : isT (bl s) with
        | false => exact names_form a a2 cap _ cap2 (zs.take len) s w (by rw [p1]; exact s1) (by omega) (by omega) (by omega) hT
        | true => exact names_in a a2 cap cap2 (zs.take len) (zs2.take len2) s w b1 b2 (by rw [p1]; exact s1) (by rw [q1]; exact s2) (by omega) (by omega) (by omega) hT
    rw [p1, q1] at key
    exact key
end Go.Proofs.Ytfilcddkcbdbnaa.Utf
