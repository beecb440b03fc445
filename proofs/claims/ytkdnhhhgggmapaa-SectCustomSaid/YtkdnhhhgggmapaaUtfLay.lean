/- Names, laid: by the program and by the document. -/
import Derived.Test.YtkdnhhhgggmapaaUtfNm
namespace Go.Proofs.Ytkdnhhhgggmapaa.Utf
open Go.RowKit
set_option maxRecDepth 100000
set_option maxHeartbeats 1000000

theorem own_base {w : World} {B B' : Nat} {v : Value} {l : List Int} (h : Leb.Own w B v l) (hB : B' ≤ B) : Leb.Own w B' v l := by
  refine ⟨h.1, h.2.1, ?_⟩
  rcases h.2.2 with h0 | ⟨g, cap, cur, hv, hb, rest⟩
  · exact .inl h0
  · exact .inr ⟨g, cap, cur, hv, Nat.le_trans hB hb, rest⟩
/-- How a name is laid. -/
def LyEnds (w : World) (l s : List Int) (e : Ending) (w' : World) : Prop :=
  ((fltE s = 0 ∧ ∃ v, e = .returned (.tuple #[v, .int .i64 0]) ∧ Leb.Own w' w.heap.size v (l ++ Leb.uB s.length ++ s)) ∨ (fltE s ≠ 0 ∧ e = .returned (.tuple #[.slice none 0 0, .int .i64 (fltE s)]))) ∧ Below w.heap.size w w'
theorem strCells_vb (s : ByteArray) : Lib.strCells s = Leb.vb (bl s) := by
  unfold Lib.strCells Leb.vb bl
  rw [List.map_map]
  rfl
/-- 'append(s, x...)' of a string onto bytes of the call's own. -/
theorem wp_str {ops : Array Oper} {rest : List Oper} {o : Oper} {a : Act} {Q : Exit → Act → World → Prop} (w : World) (hgd : o.guard = none) (sl x : Operand)
    (ho : o.op = .call { callee := .builtin .append, args := #[sl, x], argTypes := #[22, 9] }) (B : Nat) (v : Value) (done : List Int) (s : ByteArray) (hs : a.eval sl = v) (hown : Leb.Own w B v done)
    (hx : a.eval x = .string s) (hlen : done.length + s.size ≤ 10000000) (hB : B ≤ w.heap.size)
    (h : ∀ v' w', Leb.Own w' B v' (done ++ bl s) → Below B w w' → wpList Try.prog ops Q rest (a.put o.dst v') w') : wpList Try.prog ops Q (o :: rest) a w := by
  obtain ⟨i0, hi, hz0, hz1, hz2⟩ := info_parts byte_info
  obtain ⟨⟨g, c, hv⟩, hrow⟩ := hown
  refine Lib.wpList_append_own_string w hgd sl x 22 9 ho B 5 i0 Try.underlying22 Try.underlying9 hi hz0 hz1 hz2 v _ _ hs hrow s hx (by simp only [maxLen]; omega) (by omega) hB ?_
  intro v' w' ho' hg hn
  have ho2 : w'.ownsRow B 5 1 v' (done ++ bl s).length (Leb.vb (done ++ bl s)) := by
    rw [Leb.vb_append, List.length_append, bl_len, ← strCells_vb]
    exact ho'
  refine h v' w' ⟨?_, ho2⟩ ((Below.refl _ _).grown hg hB fun k hk => (World.ownsRow.lt hrow k hk).1)
  rcases ho2.2 with ⟨e, _⟩ | ⟨g', c', cur, e, _⟩
  · have := (hn.1 e).1
    rw [hv] at this
    cases this
  · exact ⟨g', c', e⟩
theorem play_no (sl : Value) (s : ByteArray) (l : List Int) (w : World) (h : fltE (bl s) ≠ 0) : Calls Try.prog 33 #[sl, .string s] w (LyEnds w l (bl s)) := by
  have HF := Lib.hid (fault_any s w)
  have hz1 : (fltE (bl s) != 0) = true := by simpa using h
  have HE := Lib.hid h
  clear h
  revert HF hz1 HE
  generalize hE : fltE (bl s) = E
  have HEE := Lib.hid hE
  clear hE
  intro HF hz1 HE
  go_enter Try.func33, Try.ntmps33
  go_wp2_with fail
  refine HF.out.mono ?_
  rintro e w1 ⟨rfl, hb⟩
  have HB := Lib.hid hb
  clear hb
  go_wp2_with fail
  go_ret2
  unfold LyEnds
  rw [HEE.out]
  exact ⟨.inr ⟨HE.out, rfl⟩, HB.out⟩
theorem play_yes (sl : Value) (A : Option Addr) (c : Nat) (s : ByteArray) (l : List Int) (w : World) (hsl : sl = .slice A l.length c) (hA : Leb.Byt w w.heap.size A l) (hl : l.length ≤ 1000000) (h : fltE (bl s) = 0) (hs : s.size ≤ 1000) : Calls Try.prog 33 #[sl, .string s] w (LyEnds w l (bl s)) := by
  have HF := Lib.hid (fault_any s w)
  rw [h] at HF
  have HE := Lib.hid h
  have HU : Hid (∀ W, Below w.heap.size w W → Calls Try.prog 30 #[sl, .int .u64 (s.size : Int)] W (Leb.Laid W (l ++ Leb.uB s.size))) := by
    show ∀ W, _
    intro W hW
    rw [hsl]
    exact Leb.U_any A c s.size l W ((hA.keep hW).mono hW.size) hl (by omega)
  have hlen : Hid ((l ++ Leb.uB s.size).length + s.size ≤ 10000000) := by
    show _ ≤ _
    rw [List.length_append, Leb.uB_len]
    have := Leb.lenU_ten (v := s.size) (by omega)
    omega
  clear h hsl hA hl
  go_enter Try.func33, Try.ntmps33
  go_wp2_with fail
  refine HF.out.mono ?_
  rintro e w1 ⟨rfl, hb⟩
  have HB := Lib.hid hb
  clear hb
  go_wp2_with fail
  refine (HU.out _ HB.out).mono ?_
  rintro e w2 ⟨v2, rfl, ho2, hb2⟩
  have HO := Lib.hid ho2
  have HB2 := Lib.hid hb2
  have hsz : w1.heap.size ≤ w2.heap.size := HB2.out.size
  clear ho2 hb2
  go_wp2_with (at_builtin; refine wp_str w2 rfl (.tmp 16) (.tmp 17) rfl w1.heap.size _ (l ++ Leb.uB s.size) s rfl HO.out rfl hlen.out hsz ?_; intro v3 w3 ho3 hb3)
  go_ret2
  exact ⟨.inl ⟨HE.out, _, rfl, by rw [bl_len]; exact own_base ho3 HB.out.size⟩, HB.out.trans ((HB2.out.trans hb3).mono HB.out.size)⟩
theorem play_any (sl : Value) (l : List Int) (s : ByteArray) (w : World) (hv : Sl w sl l) (hl : l.length ≤ 1000000) (hs : s.size ≤ 1000) : Calls Try.prog 33 #[sl, .string s] w (LyEnds w l (bl s)) := by
  by_cases h : fltE (bl s) = 0
  · have hv' := hv
    obtain ⟨A, c, e, _⟩ := hv
    exact play_yes sl A c s l w e (Sl.leb (by rw [← e]; exact hv')) hl h hs
  · exact play_no sl s l w h
/-- '[]byte(s)': a new row. -/
theorem bytes_of (s : ByteArray) (w : World) (hs : s.size ≤ 1000) : ∃ W v, (convert 9 22 (.string s)).run Try.prog w = .ok v W ∧ Sl W v (bl s) ∧ Below w.heap.size w W := by
  refine ⟨_, _, Lib.run_convert_string_bytes w 9 22 5 s Try.underlying9 Try.underlying22 Try.underlying5, ⟨_, grownCap w s.size 0 5, by rw [bl_len], ?_, ?_, fun _ => ⟨w.heap.size, 0, rfl, ?_, rfl, fun j hj => ?_⟩⟩, ?_⟩
  · rw [bl_len]; exact grownCap_ge w s.size 0 _
  · have := grownCap_le_maxLen w s.size 0 5 (by unfold maxLen; omega)
    unfold maxLen at this
    omega
  · rw [Lib.bytesWorld_size]; show w.heap.size < w.heap.size + 1; omega
  · rw [bl_len] at hj
    show (Lib.bytesWorld w 5 s).cell? ⟨w.heap.size, 0 + j, none⟩ = _
    rw [Nat.zero_add, Lib.bytesWorld_cell w _ s j hj]
    unfold bl
    simp
    rw [Array.getElem?_eq_getElem (show j < s.data.size from hj)]
    rfl
  · exact ⟨rfl, rfl, rfl, by rw [Lib.bytesWorld_size]; omega, fun k hk => Lib.bytesWorld_at_old w _ s k hk⟩
theorem flt_big {l : List Int} (h : 64 < l.length) : fltE l = 4 := by unfold fltE; rw [decide_eq_true h]; rfl
theorem flt_txt {l : List Int} (h : ¬ 64 < l.length) (ht : isT l = true) : fltE l = 0 := by unfold fltE; rw [decide_eq_false h, ht]; rfl
theorem flt_form {l : List Int} (h : ¬ 64 < l.length) (ht : isT l = false) : fltE l = 3 := by unfold fltE; rw [decide_eq_false h, ht]; rfl
theorem dlay_any (sl : Value) (l : List Int) (s : ByteArray) (w : World) (hv : Sl w sl l) (hl : l.length ≤ 1000000) (hs : s.size ≤ 1000) : Calls Try.prog 34 #[sl, .string s] w (LyEnds w l (bl s)) := by
  have hbl := bl_len s
  by_cases h : 64 < s.size
  · have HE := Lib.hid (flt_big (l := bl s) (by omega))
    have h' : decide ((64 : Int) < (s.size : Int)) = true := by simp; omega
    clear hv hbl
    go_enter Try.func34, Try.ntmps34
    go_wp2_with fail
    go_ret2
    unfold LyEnds
    rw [HE.out]
    exact ⟨.inr ⟨by decide, rfl⟩, Below.refl _ _⟩
  · have h' : decide ((64 : Int) < (s.size : Int)) = false := by simp; omega
    obtain ⟨W, x, hconv, hsl, hb0⟩ := bytes_of s w hs
    have HV := Lib.hid (valid_any x (bl s) W (bl_byte s) hsl (by omega))
    have HB0 := Lib.hid hb0
    have hconv' : (convert 9 22 (.string s)).run Try.prog w = .ok x W := hconv
    clear hconv hsl hb0
    cases hT : isT (bl s) with
    | false =>
      have HE := Lib.hid (flt_form (l := bl s) (by omega) hT)
      rw [hT] at HV
      clear hv hbl hT h
      go_enter Try.func34, Try.ntmps34
      go_wp2_with fail
      refine HV.out.mono ?_
      rintro e w1 ⟨rfl, hb⟩
      have HB := Lib.hid (HB0.out.trans (hb.mono HB0.out.size))
      clear hb
      go_wp2_with fail
      go_ret2
      unfold LyEnds
      rw [HE.out]
      exact ⟨.inr ⟨by decide, rfl⟩, HB.out⟩
    | true =>
      have HE := Lib.hid (flt_txt (l := bl s) (by omega) hT)
      rw [hT] at HV
      have HU : Hid (∀ W, Below w.heap.size w W → Calls Try.prog 31 #[sl, .int .u64 (s.size : Int)] W (Leb.Laid W (l ++ Leb.uB s.size))) := by
        show ∀ W, _
        intro W hW
        have hv' := hv
        obtain ⟨A, c, e, _⟩ := hv
        have hA : Leb.Byt w w.heap.size A l := Sl.leb (by rw [← e]; exact hv')
        rw [e]
        exact Leb.refU_any A c s.size l W ((hA.keep hW).mono hW.size) (by omega) (by omega)
      have hlen : Hid ((l ++ Leb.uB s.size).length + s.size ≤ 10000000) := by
        show _ ≤ _
        rw [List.length_append, Leb.uB_len]
        have := Leb.lenU_ten (v := s.size) (by omega)
        omega
      clear hv hbl hT h hl
      go_enter Try.func34, Try.ntmps34
      go_wp2_with fail
      refine HV.out.mono ?_
      rintro e w1 ⟨rfl, hb⟩
      have HB := Lib.hid (HB0.out.trans (hb.mono HB0.out.size))
      clear hb
      go_wp2_with fail
      refine (HU.out _ HB.out).mono ?_
      rintro e w2 ⟨v2, rfl, ho2, hb2⟩
      have HO := Lib.hid ho2
      have HB2 := Lib.hid hb2
      have hsz : w1.heap.size ≤ w2.heap.size := HB2.out.size
      clear ho2 hb2
      go_wp2_with (at_builtin; refine wp_str w2 rfl (.tmp 19) (.tmp 20) rfl w1.heap.size _ (l ++ Leb.uB s.size) s rfl HO.out rfl hlen.out hsz ?_; intro v3 w3 ho3 hb3)
      go_ret2
      exact ⟨.inl ⟨HE.out, _, rfl, by rw [bl_len]; exact own_base ho3 HB.out.size⟩, HB.out.trans ((HB2.out.trans hb3).mono HB.out.size)⟩
end Go.Proofs.Ytkdnhhhgggmapaa.Utf
