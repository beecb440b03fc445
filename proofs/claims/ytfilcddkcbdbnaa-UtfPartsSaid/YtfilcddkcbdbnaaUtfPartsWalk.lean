/- UtfParts walked: bytes one behind the other are a text, if both are; then its numbers are both's. -/
import Derived.Test.YtfilcddkcbdbnaaUtfBackWalk
namespace Go.Proofs.Ytfilcddkcbdbnaa.Utf
open Go.RowKit
set_option maxRecDepth 100000
set_option maxHeartbeats 1000000

/-- Whole numbers of the call's own, never nil. -/
def OwnJ (w : World) (B : Nat) (v : Value) (l : List Int) : Prop := (∃ g c, v = .slice (some ⟨g, 0, none⟩) l.length c) ∧ OwnI w B v l
theorem ownJ_none (w : World) : OwnJ (w.alloc (.cells #[] 3)) w.heap.size (.slice (some ⟨w.heap.size, 0, none⟩) 0 0) [] :=
  ⟨⟨_, _, rfl⟩, by simp [vi], .inr ⟨_, _, _, rfl, Nat.le_refl _, heap_alloc_new w _, Nat.le_refl _, by simp [maxLen], by simp, by simp [vi]⟩⟩
theorem vi_one (l : List Int) : ∀ u ∈ vi l, u.oneCell' = true := by
  intro u hu
  obtain ⟨n, _, rfl⟩ := List.mem_map.1 hu
  rfl
theorem vi_append (a b : List Int) : vi (a ++ b) = vi a ++ vi b := by simp [vi]
theorem run_ints (w : World) (ty : TypeId) (B : Nat) (v u : Value) (done l : List Int) (hown : OwnJ w B v done) (hu : SlI w u l) (hlen : done.length + l.length ≤ 10000000) (hB : B ≤ w.heap.size) :
    ∃ v' w', (Builtin.append_ #[23, 23] ty #[v, u]).run Try.prog w = .ok v' w' ∧ OwnJ w' B v' (done ++ l) ∧ Below B w w' := by
  obtain ⟨i0, hi, hz0, hz1, hz2⟩ := info_parts int_info
  obtain ⟨A, c, rfl, _, _, h4⟩ := hu
  rcases A with _ | ad
  · have hl : l = [] := by
      by_cases h : l = []
      · exact h
      · obtain ⟨g, off, e, _⟩ := h4 h
        cases e
    subst hl
    refine ⟨v, w, ?_, by simpa using hown, Below.refl _ _⟩
    have hu := Try.underlying23
    obtain ⟨⟨g, cp, rfl⟩, h1, h2⟩ := hown
    rcases h2 with ⟨e, _⟩ | ⟨g', cp', cur, e, _, _, hn, _⟩
    · cases e
    · injection e with _ _ e
      subst e
      simp [Builtin.append_, run_underlying hu, sizeOf, typeInfo, hi, Builtin.lenOf, Builtin.firstCells, hn, storeCells]
  · have hcells : ∀ j x, (vi l)[j]? = some x → w.cell? (ad.add j) = some x := fun j x hx => by
      have hl : l ≠ [] := fun e => by rw [e] at hx; simp [vi] at hx
      obtain ⟨g, off, e, _, hI⟩ := h4 hl
      injection e with e
      subst e
      rw [add_plain]
      unfold vi at hx
      rw [List.getElem?_map] at hx
      by_cases hj : j < l.length
      · rw [List.getElem?_eq_getElem hj] at hx
        simp at hx
        subst hx
        rw [hI j hj]
        simp [hj]
      · rw [List.getElem?_eq_none (by omega)] at hx
        simp at hx
    obtain ⟨v', w', hr, h1, h2, h3⟩ := run_append_own (P := Try.prog) w B 23 ty 3 i0 (.int .i64 0) 1 8 Try.underlying23 hi hz0 hz1 hz2 rfl (by decide) v _ _ hown.2 ad l.length c (vi l) (by rw [vi_length, Nat.mul_one]) hcells (vi_one l) (by simp only [maxLen]; omega) (by omega) hB
    have h1' : w'.ownsRow B 3 1 v' (done ++ l).length (vi (done ++ l)) := by rw [vi_append, List.length_append]; exact h1
    refine ⟨v', w', hr, ⟨?_, h1'⟩, (Below.refl _ _).grown h2 hB (OwnI.block hown.2)⟩
    rcases h1'.2 with ⟨e, _⟩ | ⟨g, c', cur, e, _⟩
    · obtain ⟨⟨g, cp, hv⟩, _⟩ := hown
      rw [(h3.1 e).1] at hv
      cases hv
    · exact ⟨g, c', e⟩
/-- 'append(s, x...)' on whole numbers of the call's own, guarded or not. -/
theorem wp_ints {ops : Array Oper} {rest : List Oper} {o : Oper} {a : Act} {Q : Exit → Act → World → Prop} (w : World) (hw : Region.wanted o (yielded ops a.tmps) = true) (s x : Operand)
    (ho : o.op = .call { callee := .builtin .append, args := #[s, x], argTypes := #[23, 23] }) (B : Nat) (v u : Value) (done l : List Int) (hs : a.eval s = v) (hown : OwnJ w B v done)
    (hx : a.eval x = u) (hu : SlI w u l) (hlen : done.length + l.length ≤ 10000000) (hB : B ≤ w.heap.size)
    (h : ∀ v' w', OwnJ w' B v' (done ++ l) → Below B w w' → wpList Try.prog ops Q rest (a.put o.dst v') w') : wpList Try.prog ops Q (o :: rest) a w := by
  refine BigFrame.wpList_want hw fun K hK => ?_
  obtain ⟨v', w', hr, h1, h2⟩ := run_ints w o.type B v u done l hown hu hlen hB
  unfold Oper.wp
  simp only [execOp, ho, resolve, invoke, builtin, Sem.run_bind, Sem.run_pure, Result.andThen_ok, List.map_toArray, List.map_cons, List.map_nil, hs, hx, hr]
  exact hK _ _ (h v' w' h1 h2)
theorem parts_core (A A2 : Option Addr) (c c2 : Nat) (l n : List Int) (w : World) (hb : ∀ x ∈ l, 0 ≤ x ∧ x < 256) (hb2 : ∀ x ∈ n, 0 ≤ x ∧ x < 256) (hv : Sl w (.slice A l.length c) l) (hl : l.length ≤ 300) (hu : Sl w (.slice A2 n.length c2) n) (hn : n.length ≤ 300) :
    Calls Try.prog 6 #[.slice A l.length c, .slice A2 n.length c2] w fun e w' => e = .returned (.bool true) ∧ Below w.heap.size w w' := by
  have HV := Lib.hid hv
  have HU := Lib.hid hu
  have Hb := Lib.hid hb
  have Hb2 := Lib.hid hb2
  have HAll : Hid (∀ x ∈ l ++ n, 0 ≤ x ∧ x < 256) := by
    show ∀ x ∈ l ++ n, _
    intro x hx
    rcases List.mem_append.1 hx with h | h
    · exact hb x h
    · exact hb2 x h
  have HLA := Lib.hid hv.leb
  have HLB := Lib.hid hu.leb
  clear hv hu hb hb2
  have t1 : decide ((300 : Int) < (l.length : Int)) = false := by simp; omega
  have t2 : decide ((300 : Int) < (n.length : Int)) = false := by simp; omega
  go_enter Try.func6, Try.ntmps6
  go_wp2_with fail
  refine (awake_any _).mono ?_
  rintro e w1 ⟨rfl, hb1⟩
  have HB1 := Lib.hid hb1
  clear hb1
  go_wp2_with fail
  refine (prunes_any _ l w1 Hb.out (HV.out.keep HB1.out) (by omega)).mono ?_
  rintro e w2 ⟨(⟨o, x, ht, rfl, ho⟩ | ⟨hno, rfl⟩), hb2⟩
  · have HB2 := Lib.hid (HB1.out.trans (hb2.mono HB1.out.size))
    have HT := Lib.hid ht
    have HO := Lib.hid ho.sl
    clear hb2 ht ho
    go_wp2_with fail
    refine (prunes_any _ n w2 Hb2.out (HU.out.keep HB2.out) (by omega)).mono ?_
    rintro e w3 ⟨(⟨o3, y, ht3, rfl, ho3⟩ | ⟨hno3, rfl⟩), hb3⟩
    · have HB3 := Lib.hid (HB2.out.trans (hb3.mono HB2.out.size))
      have HO2 := Lib.hid (HO.out.keep hb3)
      have HT3 := Lib.hid ht3
      have HO3 := Lib.hid ho3.sl
      clear hb3 ht3 ho3
      go_wp2_with (at_builtin; refine Leb.wp_bytes (w3.alloc (.cells #[] 5)) rfl (.tmp 33) (.tmp 34) rfl w3.heap.size _ _ [] l rfl (Leb.own_none w3) A c rfl ((HLA.out.keep HB3.out).keep ((Below.refl _ _).alloc HB3.out.size _)) (by simp; omega) (by simp) ?_; intro v4 w4 ho4 hb4; have HO4 := Lib.hid ho4; have HB4 := Lib.hid hb4; clear ho4 hb4; go_wp2_with (at_builtin; refine Leb.wp_bytes w4 rfl (.tmp 35) (.tmp 36) rfl w3.heap.size _ _ ([] ++ l) n rfl HO4.out A2 c2 rfl ((HLB.out.keep HB3.out).keep (((Below.refl _ _).alloc HB3.out.size _).trans (HB4.out.mono HB3.out.size))) (by simp; omega) (Nat.le_trans (by simp) HB4.out.size) ?_; intro v5 w5 ho5 hb5))
      have HB35 := Lib.hid (((Below.refl w3.heap.size w3).alloc (Nat.le_refl _) (.cells #[] 5)).trans (HB4.out.trans hb5))
      have HB5 := Lib.hid (HB3.out.trans (HB35.out.mono HB3.out.size))
      have HO5 := Lib.hid (OwnB.sl (show OwnB w5 w3.heap.size v5 (l ++ n) from ho5.2))
      clear ho5 hb5 HB4 HO4
      refine (prunes_any _ (l ++ n) w5 HAll.out HO5.out (by simp; omega)).mono ?_
      rintro e w6 ⟨(⟨o6, z, ht6, rfl, ho6⟩ | ⟨hno6, rfl⟩), hb6⟩
      · obtain rfl := Txt.one ht6 (HT.out.append HT3.out)
        have HB6 := Lib.hid (HB5.out.trans (hb6.mono HB5.out.size))
        have hk36 : Below w3.heap.size w3 w6 := HB35.out.trans (hb6.mono HB35.out.size)
        have HO6 := Lib.hid ho6.sl
        have HX6 := Lib.hid (HO2.out.keep hk36)
        have HY6 := Lib.hid (HO3.out.keep hk36)
        have hxl : Hid (x.length ≤ 300 ∧ y.length ≤ 300) := ⟨Nat.le_trans (txt_len HT.out) hl, Nat.le_trans (txt_len HT3.out) hn⟩
        clear hk36 hb6 ht6 ho6
        go_wp2_with (at_builtin; refine wp_ints (w6.alloc (.cells #[] 3)) rfl (.tmp 53) (.tmp 54) rfl w6.heap.size _ _ [] x rfl (ownJ_none w6) rfl (HX6.out.keep ((Below.refl _ _).alloc (Nat.le_refl _) _)) (by have := hxl.out.1; simp; omega) (by simp) ?_; intro v7 w7 ho7 hb7; have HO7 := Lib.hid ho7; have HB7 := Lib.hid hb7; clear ho7 hb7; go_wp2_with (at_builtin; refine wp_ints w7 rfl (.tmp 55) (.tmp 56) rfl w6.heap.size _ _ ([] ++ x) y rfl HO7.out rfl (HY6.out.keep (((Below.refl _ _).alloc (Nat.le_refl _) _).trans HB7.out)) (by have := hxl.out; simp; omega) (Nat.le_trans (by simp) HB7.out.size) ?_; intro v8 w8 ho8 hb8))
        have HB68 := Lib.hid (((Below.refl w6.heap.size w6).alloc (Nat.le_refl _) (.cells #[] 3)).trans (HB7.out.trans hb8))
        have HS8 := Lib.hid (OwnI.sl (show OwnI w8 w6.heap.size v8 (x ++ y) from ho8.2))
        have HI := Lib.hid (ints_any _ _ (x ++ y) (x ++ y) w8 (HO6.out.keep HB68.out) HS8.out)
        rw [decide_eq_true (show x ++ y = x ++ y from rfl)] at HI
        clear ho8 hb8 HO7 HB7
        refine HI.out.mono ?_
        rintro e w9 ⟨rfl, hst⟩
        have HB9 := Lib.hid (HB6.out.trans ((HB68.out.trans (hst.below.mono HB68.out.size)).mono HB6.out.size))
        clear hst
        go_wp2_with fail
        go_ret
        exact ⟨rfl, HB9.out⟩
      · exact absurd (HT.out.append HT3.out) (hno6 _)
    · have HB3 := Lib.hid (HB2.out.trans (hb3.mono HB2.out.size))
      have HN3 := Lib.hid hno3
      clear hb3 hno3
      go_wp2_with (at_builtin; refine Leb.wp_bytes (w3.alloc (.cells #[] 5)) rfl (.tmp 33) (.tmp 34) rfl w3.heap.size _ _ [] l rfl (Leb.own_none w3) A c rfl ((HLA.out.keep HB3.out).keep ((Below.refl _ _).alloc HB3.out.size _)) (by simp; omega) (by simp) ?_; intro v4 w4 ho4 hb4; have HO4 := Lib.hid ho4; have HB4 := Lib.hid hb4; clear ho4 hb4; go_wp2_with (at_builtin; refine Leb.wp_bytes w4 rfl (.tmp 35) (.tmp 36) rfl w3.heap.size _ _ ([] ++ l) n rfl HO4.out A2 c2 rfl ((HLB.out.keep HB3.out).keep (((Below.refl _ _).alloc HB3.out.size _).trans (HB4.out.mono HB3.out.size))) (by simp; omega) (Nat.le_trans (by simp) HB4.out.size) ?_; intro v5 w5 ho5 hb5))
      have HB35 := Lib.hid (((Below.refl w3.heap.size w3).alloc (Nat.le_refl _) (.cells #[] 5)).trans (HB4.out.trans hb5))
      have HB5 := Lib.hid (HB3.out.trans (HB35.out.mono HB3.out.size))
      have HO5 := Lib.hid (OwnB.sl (show OwnB w5 w3.heap.size v5 (l ++ n) from ho5.2))
      clear ho5 hb5 HB4 HO4
      refine (prunes_any _ (l ++ n) w5 HAll.out HO5.out (by simp; omega)).mono ?_
      rintro e w6 ⟨(⟨o6, z, ht6, rfl, ho6⟩ | ⟨hno6, rfl⟩), hb6⟩
      · obtain ⟨y, hy, _⟩ := HT.out.rest ht6
        exact absurd hy (HN3.out y)
      · have HB6 := Lib.hid (HB5.out.trans (hb6.mono HB5.out.size))
        clear hb6 hno6
        go_wp2_with fail
        go_ret
        exact ⟨rfl, HB6.out⟩
  · have HB2 := Lib.hid (HB1.out.trans (hb2.mono HB1.out.size))
    clear hb2 hno
    go_wp2_with fail
    refine (prunes_any _ n w2 Hb2.out (HU.out.keep HB2.out) (by omega)).mono ?_
    rintro e w3 ⟨(⟨o3, y, ht3, rfl, ho3⟩ | ⟨hno3, rfl⟩), hb3⟩
    · have HB3 := Lib.hid (HB2.out.trans (hb3.mono HB2.out.size))
      clear hb3 ht3 ho3
      go_wp2_with (at_builtin; refine Leb.wp_bytes (w3.alloc (.cells #[] 5)) rfl (.tmp 33) (.tmp 34) rfl w3.heap.size _ _ [] l rfl (Leb.own_none w3) A c rfl ((HLA.out.keep HB3.out).keep ((Below.refl _ _).alloc HB3.out.size _)) (by simp; omega) (by simp) ?_; intro v4 w4 ho4 hb4; have HO4 := Lib.hid ho4; have HB4 := Lib.hid hb4; clear ho4 hb4; go_wp2_with (at_builtin; refine Leb.wp_bytes w4 rfl (.tmp 35) (.tmp 36) rfl w3.heap.size _ _ ([] ++ l) n rfl HO4.out A2 c2 rfl ((HLB.out.keep HB3.out).keep (((Below.refl _ _).alloc HB3.out.size _).trans (HB4.out.mono HB3.out.size))) (by simp; omega) (Nat.le_trans (by simp) HB4.out.size) ?_; intro v5 w5 ho5 hb5))
      have HB35 := Lib.hid (((Below.refl w3.heap.size w3).alloc (Nat.le_refl _) (.cells #[] 5)).trans (HB4.out.trans hb5))
      have HB5 := Lib.hid (HB3.out.trans (HB35.out.mono HB3.out.size))
      have HO5 := Lib.hid (OwnB.sl (show OwnB w5 w3.heap.size v5 (l ++ n) from ho5.2))
      clear ho5 hb5 HB4 HO4
      refine (prunes_any _ (l ++ n) w5 HAll.out HO5.out (by simp; omega)).mono ?_
      rintro e w6 ⟨(⟨o6, z, ht6, rfl, ho6⟩ | ⟨hno6, rfl⟩), hb6⟩
      · have HB6 := Lib.hid (HB5.out.trans (hb6.mono HB5.out.size))
        clear hb6 ht6 ho6
        go_wp2_with fail
        go_ret
        exact ⟨rfl, HB6.out⟩
      · have HB6 := Lib.hid (HB5.out.trans (hb6.mono HB5.out.size))
        clear hb6 hno6
        go_wp2_with fail
        go_ret
        exact ⟨rfl, HB6.out⟩
    · have HB3 := Lib.hid (HB2.out.trans (hb3.mono HB2.out.size))
      clear hb3 hno3
      go_wp2_with (at_builtin; refine Leb.wp_bytes (w3.alloc (.cells #[] 5)) rfl (.tmp 33) (.tmp 34) rfl w3.heap.size _ _ [] l rfl (Leb.own_none w3) A c rfl ((HLA.out.keep HB3.out).keep ((Below.refl _ _).alloc HB3.out.size _)) (by simp; omega) (by simp) ?_; intro v4 w4 ho4 hb4; have HO4 := Lib.hid ho4; have HB4 := Lib.hid hb4; clear ho4 hb4; go_wp2_with (at_builtin; refine Leb.wp_bytes w4 rfl (.tmp 35) (.tmp 36) rfl w3.heap.size _ _ ([] ++ l) n rfl HO4.out A2 c2 rfl ((HLB.out.keep HB3.out).keep (((Below.refl _ _).alloc HB3.out.size _).trans (HB4.out.mono HB3.out.size))) (by simp; omega) (Nat.le_trans (by simp) HB4.out.size) ?_; intro v5 w5 ho5 hb5))
      have HB35 := Lib.hid (((Below.refl w3.heap.size w3).alloc (Nat.le_refl _) (.cells #[] 5)).trans (HB4.out.trans hb5))
      have HB5 := Lib.hid (HB3.out.trans (HB35.out.mono HB3.out.size))
      have HO5 := Lib.hid (OwnB.sl (show OwnB w5 w3.heap.size v5 (l ++ n) from ho5.2))
      clear ho5 hb5 HB4 HO4
      refine (prunes_any _ (l ++ n) w5 HAll.out HO5.out (by simp; omega)).mono ?_
      rintro e w6 ⟨(⟨o6, z, ht6, rfl, ho6⟩ | ⟨hno6, rfl⟩), hb6⟩
      · have HB6 := Lib.hid (HB5.out.trans (hb6.mono HB5.out.size))
        clear hb6 ht6 ho6
        go_wp2_with fail
        go_ret
        exact ⟨rfl, HB6.out⟩
      · have HB6 := Lib.hid (HB5.out.trans (hb6.mono HB5.out.size))
        clear hb6 hno6
        go_wp2_with fail
        go_ret
        exact ⟨rfl, HB6.out⟩
theorem parts_big (A A2 : Option Addr) (n c n2 c2 : Nat) (w : World) (h : 300 < n ∨ 300 < n2) (hm : n ≤ 9223372036854775807) (hm2 : n2 ≤ 9223372036854775807) :
    Calls Try.prog 6 #[.slice A n c, .slice A2 n2 c2] w fun e w' => e = .returned (.bool true) ∧ Below w.heap.size w w' := by
  by_cases h1 : 300 < n
  · have t1 : decide ((300 : Int) < (n : Int)) = true := by simp; omega
    clear h
    go_enter Try.func6, Try.ntmps6
    go_wp2_with fail
    refine (awake_any _).mono ?_
    rintro e w1 ⟨rfl, hb1⟩
    go_wp2_with fail
    go_ret
    exact ⟨rfl, hb1⟩
  · have t1 : decide ((300 : Int) < (n : Int)) = false := by simp; omega
    have t2 : decide ((300 : Int) < (n2 : Int)) = true := by simp; omega
    clear h h1
    go_enter Try.func6, Try.ntmps6
    go_wp2_with fail
    refine (awake_any _).mono ?_
    rintro e w1 ⟨rfl, hb1⟩
    go_wp2_with fail
    go_ret
    exact ⟨rfl, hb1⟩
theorem parts_any (a a2 : Option Addr) (len cap : Nat) (zs : List Int) (len2 cap2 : Nat) (zs2 : List Int) (w : World) (h1 : Leb.Came .u8 w a len cap zs) (h2 : Leb.Came .u8 w a2 len2 cap2 zs2) :
    Calls Try.prog 6 #[.slice a len cap, .slice a2 len2 cap2] w fun e w' => e = .returned (.bool true) ∧ Below w.heap.size w w' := by
  obtain ⟨p1, p2, p3, _⟩ := came_parts h1
  obtain ⟨q1, q2, q3, _⟩ := came_parts h2
  obtain ⟨s1, b1⟩ := came_sl h1
  obtain ⟨s2, b2⟩ := came_sl h2
  by_cases h : 300 < len ∨ 300 < len2
  · exact parts_big a a2 len cap len2 cap2 w h (by omega) (by omega)
  · have key := parts_core a a2 cap cap2 (zs.take len) (zs2.take len2) w b1 b2 (by rw [p1]; exact s1) (by omega) (by rw [q1]; exact s2) (by omega)
    rw [p1, q1] at key
    exact key
end Go.Proofs.Ytfilcddkcbdbnaa.Utf
