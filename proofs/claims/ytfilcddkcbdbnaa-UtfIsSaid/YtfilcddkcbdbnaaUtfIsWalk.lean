/- UtfIs walked: what the program tells of any bytes, numbers, places and strings is what the document does. -/
import Derived.Test.YtfilcddkcbdbnaaUtfBackWalk
namespace Go.Proofs.Ytfilcddkcbdbnaa.Utf
open Go.RowKit
set_option maxRecDepth 100000
set_option maxHeartbeats 2000000

/-- A call that hands back whole numbers, and a word. -/
def TellI (x : List Int) (k : Bool) (w : World) (e : Ending) (w' : World) : Prop := ∃ o, e = .returned (.tuple #[o, .bool k]) ∧ SlI w' o x ∧ Below w.heap.size w w'
/-- A call that hands back bytes, and a word. -/
def TellB (x : List Int) (k : Bool) (w : World) (e : Ending) (w' : World) : Prop := ∃ o, e = .returned (.tuple #[o, .bool k]) ∧ Sl w' o x ∧ Below w.heap.size w w'
/-- A call that hands back bytes, and an error. -/
def TellE (x : List Int) (n : Int) (w : World) (e : Ending) (w' : World) : Prop := ∃ o, e = .returned (.tuple #[o, .int .i64 n]) ∧ Sl w' o x ∧ Below w.heap.size w w'
/-- A call that hands back a word. -/
def TellW (k : Bool) (w : World) (e : Ending) (w' : World) : Prop := e = .returned (.bool k) ∧ Below w.heap.size w w'
theorem slI_nil (w : World) : SlI w (.slice none 0 0) [] := ⟨none, 0, rfl, Nat.le_refl _, by omega, fun h => absurd rfl h⟩
theorem run_tells (l : List Int) : ∃ x k, ∀ w e w', RunEnds l w e w' → TellI x k w e w' := by
  by_cases h : ∃ x, Txt l x
  · obtain ⟨x, hx⟩ := h
    refine ⟨x, true, fun w e w' h => ?_⟩
    obtain ⟨(⟨o, y, hy, rfl, ho⟩ | ⟨hn, _⟩), hb⟩ := h
    · obtain rfl := Txt.one hx hy
      exact ⟨o, rfl, ho.sl, hb⟩
    · exact absurd hx (hn x)
  · refine ⟨[], false, fun w e w' h' => ?_⟩
    obtain ⟨(⟨o, y, hy, rfl, ho⟩ | ⟨hn, rfl⟩), hb⟩ := h'
    · exact absurd ⟨y, hy⟩ h
    · exact ⟨_, rfl, slI_nil w', hb⟩
theorem from_tells (l : List Int) : ∃ x k, ∀ w e w', FrEnds l w e w' → TellB x k w e w' := by
  by_cases h : ∀ v ∈ l, okR v
  · refine ⟨l.flatMap enc, true, fun w e w' h' => ?_⟩
    obtain ⟨(⟨_, o, rfl, ho⟩ | ⟨⟨y, hy, hn⟩, _⟩), hb⟩ := h'
    · exact ⟨o, rfl, ho.sl, hb⟩
    · exact absurd (h y hy) hn
  · refine ⟨[], false, fun w e w' h' => ?_⟩
    obtain ⟨(⟨ha, _⟩ | ⟨_, rfl⟩), hb⟩ := h'
    · exact absurd ha h
    · exact ⟨_, rfl, Sl.nil w', hb⟩
theorem lay_tells (l s : List Int) : ∃ x n, ∀ w e w', LyEnds w l s e w' → TellE x n w e w' := by
  by_cases h : fltE s = 0
  · refine ⟨l ++ Leb.uB s.length ++ s, 0, fun w e w' h' => ?_⟩
    obtain ⟨(⟨_, v, rfl, ho⟩ | ⟨hn, _⟩), hb⟩ := h'
    · exact ⟨v, rfl, OwnB.sl (show OwnB w' _ v _ from ho.2), hb⟩
    · exact absurd h hn
  · refine ⟨[], fltE s, fun w e w' h' => ?_⟩
    obtain ⟨(⟨hn, _⟩ | ⟨_, rfl⟩), hb⟩ := h'
    · exact absurd hn h
    · exact ⟨_, rfl, Sl.nil w', hb⟩
theorem is_core (A A2 : Option Addr) (n c n2 c2 : Nat) (at_ : Int) (s : ByteArray) (w : World) (hn : n ≤ 500) (hn2 : n2 ≤ 200) (hs : s.size ≤ 200) (x q y : List Int) (k1 k2 T : Bool) (nm_ : ByteArray) (p er er2 : Int)
    (h1 : ∀ W, Below w.heap.size w W → Calls Try.prog 10 #[.slice A n c] W (TellI x k1 W))
    (h2 : ∀ W, Below w.heap.size w W → Calls Try.prog 11 #[.slice A n c] W (TellI x k1 W))
    (h3 : ∀ W, Below w.heap.size w W → Calls Try.prog 12 #[.slice A2 n2 c2] W (TellB q k2 W))
    (h4 : ∀ W, Below w.heap.size w W → Calls Try.prog 13 #[.slice A2 n2 c2] W (TellB q k2 W))
    (h5 : ∀ W, Below w.heap.size w W → Calls Try.prog 14 #[.slice A n c, .int .i64 at_] W fun e w' => e = .returned (.tuple #[.string nm_, .int .i64 p, .int .i64 er]) ∧ Below W.heap.size W w')
    (h6 : ∀ W, Below w.heap.size w W → Calls Try.prog 15 #[.slice A n c, .int .i64 at_] W fun e w' => e = .returned (.tuple #[.string nm_, .int .i64 p, .int .i64 er]) ∧ Below W.heap.size W w')
    (h7 : ∀ W, Below w.heap.size w W → Calls Try.prog 16 #[.slice A n c, .string s] W (TellE y er2 W))
    (h8 : ∀ W, Below w.heap.size w W → Calls Try.prog 17 #[.slice A n c, .string s] W (TellE y er2 W))
    (h9 : ∀ W, Below w.heap.size w W → Calls Try.prog 18 #[.slice A n c] W (TellW T W))
    (h10 : ∀ W, Below w.heap.size w W → Calls Try.prog 19 #[.slice A n c] W (TellW T W)) :
    Calls Try.prog 3 #[.slice A n c, .slice A2 n2 c2, .int .i64 at_, .string s] w fun e w' => e = .returned (.bool true) ∧ Below w.heap.size w w' := by
  have H1 := Lib.hid h1
  have H2 := Lib.hid h2
  have H3 := Lib.hid h3
  have H4 := Lib.hid h4
  have H5 := Lib.hid h5
  have H6 := Lib.hid h6
  have H7 := Lib.hid h7
  have H8 := Lib.hid h8
  have H9 := Lib.hid h9
  have H10 := Lib.hid h10
  have t1 : decide ((500 : Int) < (n : Int)) = false := by simp; omega
  have t2 : decide ((200 : Int) < (n2 : Int)) = false := by simp; omega
  have t3 : decide ((200 : Int) < (s.size : Int)) = false := by simp; omega
  clear h1 h2 h3 h4 h5 h6 h7 h8 h9 h10
  go_enter Try.func3, Try.ntmps3
  go_wp2_with fail
  refine (awake_any _).mono ?_
  rintro e w1 ⟨rfl, hb⟩
  have B1 := Lib.hid hb
  clear hb
  go_wp2_with fail
  refine (H1.out _ B1.out).mono ?_
  rintro e w2 ⟨o2, rfl, ho, hb⟩
  have B2 := Lib.hid (B1.out.trans (hb.mono B1.out.size))
  have O2 := Lib.hid ho
  clear hb ho
  go_wp2_with fail
  refine (H2.out _ B2.out).mono ?_
  rintro e w3 ⟨o3, rfl, ho, hb⟩
  have B3 := Lib.hid (B2.out.trans (hb.mono B2.out.size))
  have O2 := Lib.hid (O2.out.keep hb)
  have O3 := Lib.hid ho
  clear hb ho
  go_wp2_with fail
  refine (H3.out _ B3.out).mono ?_
  rintro e w4 ⟨o4, rfl, ho, hb⟩
  have B4 := Lib.hid (B3.out.trans (hb.mono B3.out.size))
  have O2 := Lib.hid (O2.out.keep hb)
  have O3 := Lib.hid (O3.out.keep hb)
  have O4 := Lib.hid ho
  clear hb ho
  go_wp2_with fail
  refine (H4.out _ B4.out).mono ?_
  rintro e w5 ⟨o5, rfl, ho, hb⟩
  have B5 := Lib.hid (B4.out.trans (hb.mono B4.out.size))
  have O2 := Lib.hid (O2.out.keep hb)
  have O3 := Lib.hid (O3.out.keep hb)
  have O4 := Lib.hid (O4.out.keep hb)
  have O5 := Lib.hid ho
  clear hb ho
  go_wp2_with fail
  refine (H5.out _ B5.out).mono ?_
  rintro e w6 ⟨rfl, hb⟩
  have B6 := Lib.hid (B5.out.trans (hb.mono B5.out.size))
  have O2 := Lib.hid (O2.out.keep hb)
  have O3 := Lib.hid (O3.out.keep hb)
  have O4 := Lib.hid (O4.out.keep hb)
  have O5 := Lib.hid (O5.out.keep hb)
  clear hb
  go_wp2_with fail
  refine (H6.out _ B6.out).mono ?_
  rintro e w7 ⟨rfl, hb⟩
  have B7 := Lib.hid (B6.out.trans (hb.mono B6.out.size))
  have O2 := Lib.hid (O2.out.keep hb)
  have O3 := Lib.hid (O3.out.keep hb)
  have O4 := Lib.hid (O4.out.keep hb)
  have O5 := Lib.hid (O5.out.keep hb)
  clear hb
  go_wp2_with fail
  refine (H7.out _ B7.out).mono ?_
  rintro e w8 ⟨o8, rfl, ho, hb⟩
  have B8 := Lib.hid (B7.out.trans (hb.mono B7.out.size))
  have O2 := Lib.hid (O2.out.keep hb)
  have O3 := Lib.hid (O3.out.keep hb)
  have O4 := Lib.hid (O4.out.keep hb)
  have O5 := Lib.hid (O5.out.keep hb)
  have O8 := Lib.hid ho
  clear hb ho
  go_wp2_with fail
  refine (H8.out _ B8.out).mono ?_
  rintro e w9 ⟨o9, rfl, ho, hb⟩
  have B9 := Lib.hid (B8.out.trans (hb.mono B8.out.size))
  have O2 := Lib.hid (O2.out.keep hb)
  have O3 := Lib.hid (O3.out.keep hb)
  have O4 := Lib.hid (O4.out.keep hb)
  have O5 := Lib.hid (O5.out.keep hb)
  have O8 := Lib.hid (O8.out.keep hb)
  have O9 := Lib.hid ho
  clear hb ho
  go_wp2_with fail
  refine (H9.out _ B9.out).mono ?_
  rintro e w10 ⟨rfl, hb⟩
  have B10 := Lib.hid (B9.out.trans (hb.mono B9.out.size))
  have O2 := Lib.hid (O2.out.keep hb)
  have O3 := Lib.hid (O3.out.keep hb)
  have O4 := Lib.hid (O4.out.keep hb)
  have O5 := Lib.hid (O5.out.keep hb)
  have O8 := Lib.hid (O8.out.keep hb)
  have O9 := Lib.hid (O9.out.keep hb)
  clear hb
  go_wp2_with fail
  refine (H10.out _ B10.out).mono ?_
  rintro e w11 ⟨rfl, hb⟩
  have B11 := Lib.hid (B10.out.trans (hb.mono B10.out.size))
  have O2 := Lib.hid (O2.out.keep hb)
  have O3 := Lib.hid (O3.out.keep hb)
  have O4 := Lib.hid (O4.out.keep hb)
  have O5 := Lib.hid (O5.out.keep hb)
  have O8 := Lib.hid (O8.out.keep hb)
  have O9 := Lib.hid (O9.out.keep hb)
  have HI := Lib.hid (ints_any _ _ x x w11 O2.out O3.out)
  rw [decide_eq_true (show x = x from rfl)] at HI
  clear hb
  go_wp2_with fail
  refine HI.out.mono ?_
  rintro e w12 ⟨rfl, hst⟩
  have B12 := Lib.hid (B11.out.trans (hst.below.mono B11.out.size))
  have c4 := sl_txt (O4.out.keep hst.below)
  have c5 := sl_txt (O5.out.keep hst.below)
  have c8 := sl_txt (O8.out.keep hst.below)
  have c9 := sl_txt (O9.out.keep hst.below)
  clear hst
  go_wp2_with fail
  go_ret
  exact ⟨rfl, B12.out⟩
theorem is_big (A A2 : Option Addr) (n c n2 c2 : Nat) (at_ : Int) (s : ByteArray) (w : World) (h : 500 < n ∨ 200 < n2 ∨ 200 < s.size) (hm : n ≤ 9223372036854775807) (hm2 : n2 ≤ 9223372036854775807) (hs : s.size ≤ 9223372036854775807) :
    Calls Try.prog 3 #[.slice A n c, .slice A2 n2 c2, .int .i64 at_, .string s] w fun e w' => e = .returned (.bool true) ∧ Below w.heap.size w w' := by
  by_cases h1 : 500 < n
  · have t1 : decide ((500 : Int) < (n : Int)) = true := by simp; omega
    clear h
    go_enter Try.func3, Try.ntmps3
    go_wp2_with fail
    refine (awake_any _).mono ?_
    rintro e w1 ⟨rfl, hb1⟩
    go_wp2_with fail
    go_ret
    exact ⟨rfl, hb1⟩
  · have t1 : decide ((500 : Int) < (n : Int)) = false := by simp; omega
    by_cases h2 : 200 < n2
    · have t2 : decide ((200 : Int) < (n2 : Int)) = true := by simp; omega
      clear h h1
      go_enter Try.func3, Try.ntmps3
      go_wp2_with fail
      refine (awake_any _).mono ?_
      rintro e w1 ⟨rfl, hb1⟩
      go_wp2_with fail
      go_ret
      exact ⟨rfl, hb1⟩
    · have t2 : decide ((200 : Int) < (n2 : Int)) = false := by simp; omega
      have t3 : decide ((200 : Int) < (s.size : Int)) = true := by simp; omega
      clear h h1 h2
      go_enter Try.func3, Try.ntmps3
      go_wp2_with fail
      refine (awake_any _).mono ?_
      rintro e w1 ⟨rfl, hb1⟩
      go_wp2_with fail
      go_ret
      exact ⟨rfl, hb1⟩
theorem is_any (a a2 : Option Addr) (len cap : Nat) (zs : List Int) (len2 cap2 : Nat) (zs2 : List Int) (at_ : Int) (s : ByteArray) (w : World) (h1 : Leb.Came .u8 w a len cap zs) (h2 : Leb.Came .i64 w a2 len2 cap2 zs2) (hs : s.size ≤ maxLen) :
    Calls Try.prog 3 #[.slice a len cap, .slice a2 len2 cap2, .int .i64 at_, .string s] w fun e w' => e = .returned (.bool true) ∧ Below w.heap.size w w' := by
  obtain ⟨p1, p2, p3, _⟩ := came_parts h1
  obtain ⟨q1, q2, q3, _⟩ := came_parts h2
  obtain ⟨s1, b1⟩ := came_sl h1
  have s2 := came_slI h2
  unfold maxLen at hs
  by_cases h : 500 < len ∨ 200 < len2 ∨ 200 < s.size
  · exact is_big a a2 len cap len2 cap2 at_ s w h (by omega) (by omega) (by omega)
  · obtain ⟨x, k1, hx⟩ := run_tells (zs.take len)
    obtain ⟨q, k2, hq⟩ := from_tells (zs2.take len2)
    obtain ⟨y, e2, hy⟩ := lay_tells (zs.take len) (bl s)
    refine is_core a a2 len cap len2 cap2 at_ s w (by omega) (by omega) (by omega) x q y k1 k2 (isT (zs.take len)) (strOfNums (nm (zs.take len) at_).1) (nm (zs.take len) at_).2.1 (nm (zs.take len) at_).2.2 e2 ?_ ?_ ?_ ?_ ?_ ?_ ?_ ?_ ?_ ?_
    · exact fun W hW => (prunes_any _ (zs.take len) W b1 (s1.keep hW) (by omega)).mono fun e w' h => hx W e w' h
    · exact fun W hW => (runes_any _ (zs.take len) W b1 (s1.keep hW) (by omega)).mono fun e w' h => hx W e w' h
    · exact fun W hW => (pfrom_any _ (zs2.take len2) W (s2.keep hW) (by omega)).mono fun e w' h => hq W e w' h
    · exact fun W hW => (from_any _ (zs2.take len2) W (s2.keep hW) (by omega)).mono fun e w' h => hq W e w' h
    · exact fun W hW => (pname_any _ (zs.take len) at_ W b1 (s1.keep hW) (by omega)).mono fun e w' h => h
    · exact fun W hW => (rname_any _ (zs.take len) at_ W b1 (s1.keep hW) (by omega)).mono fun e w' h => h
    · exact fun W hW => (play_any _ (zs.take len) s W (s1.keep hW) (by omega) (by omega)).mono fun e w' h => hy W e w' h
    · exact fun W hW => (dlay_any _ (zs.take len) s W (s1.keep hW) (by omega) (by omega)).mono fun e w' h => hy W e w' h
    · exact fun W hW => (pvalid_any _ (zs.take len) W b1 (s1.keep hW)).mono fun e w' h => h
    · exact fun W hW => (valid_any _ (zs.take len) W b1 (s1.keep hW) (by omega)).mono fun e w' h => h
end Go.Proofs.Ytfilcddkcbdbnaa.Utf
