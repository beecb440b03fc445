/- TypesIs walked: what any bytes tell, any types' bytes, whether they may be, are one, or keep to one another, is what the document says. -/
import Derived.Test.YtnminpbnlcgblaaTypesOneWalk
import Derived.Test.YtnminpbnlcgblaaTypWith2
import Derived.Test.YtnminpbnlcgblaaTypLim
namespace Go.Proofs.Ytnminpbnlcgblaa.Typ
open Go.RowKit
set_option maxRecDepth 100000
set_option maxHeartbeats 4000000

theorem run_eqs1 (x y : Operand) (s : ByteArray) (W : World) : (do eqGuard BinOp.eql 9 x y (.string s) (.string s); binOp BinOp.eql 9 (.string s) (.string s) : Sem Value).run Try.prog W = .ok (.bool true) W := by go_simp
theorem run_eqe (x y : Operand) (r : Int) (W : World) : (do eqGuard BinOp.eql 29 x y (.int .i64 r) (.int .i64 r); binOp BinOp.eql 29 (.int .i64 r) (.int .i64 r) : Sem Value).run Try.prog W = .ok (.bool true) W := by go_simp
/-- Bytes that read as a text, and an error. -/
def LaidS (s : ByteArray) (n : Int) (w : World) (e : Ending) (w' : World) : Prop := ∃ A k c, e = .returned (.tuple #[.slice A k c, .int .i64 n]) ∧ TxtOf w' (.slice A k c) s ∧ Below w.heap.size w w'
theorem LaidE.s {K : List Int} {n : Int} {w w' : World} {e : Ending} (h : LaidE K n w e w') : LaidS (strOfNums K) n w e w' := by
  obtain ⟨v, rfl, hs, hb⟩ := h
  have ht := hs.txtOf
  obtain ⟨A, c, rfl, _⟩ := hs
  exact ⟨A, _, c, rfl, ht, hb⟩
theorem nil_s {w w' : World} {e : Ending} (h : e = .returned (.tuple #[.slice none 0 0, .int .i64 1]) ∧ Below w.heap.size w w') : LaidS (strOfNums []) 1 w e w' := by
  obtain ⟨rfl, hb⟩ := h
  exact ⟨none, 0, 0, rfl, (Sl.nil w').txtOf, hb⟩
theorem is_big0 (A A1 A2 B1 B2 : Option Addr) (n c n1 n2 m1 m2 c1 c2 d1 d2 : Nat) (at_ a b a' b' : Int) (h h' : Bool) (w : World)
    (hn : 500 < n)
    : Calls Try.prog 3 #[.slice A n c, .int .i64 at_, .agg #[.slice A1 n1 c1, .slice A2 n2 c2], .agg #[.slice B1 m1 d1, .slice B2 m2 d2], .agg #[.int .i64 a, .int .i64 b, .bool h], .agg #[.int .i64 a', .int .i64 b', .bool h']] w fun e w' => e = .returned (.bool true) ∧ Below w.heap.size w w' := by
  have t1 : decide ((500 : Int) < (n : Int)) = true := by simp; omega
  have HW0 : Hid (Below w.heap.size w ((((w.alloc (.cells #[.slice A1 n1 c1, .slice A2 n2 c2] 24)).alloc (.cells #[.slice B1 m1 d1, .slice B2 m2 d2] 24)).alloc (.cells #[.int .i64 a, .int .i64 b, .bool h] 26)).alloc (.cells #[.int .i64 a', .int .i64 b', .bool h'] 26))) := ((((Below.refl _ _).alloc (Nat.le_refl _) _).alloc (by first | (simp; done) | (simp; omega)) _).alloc (by first | (simp; done) | (simp; omega)) _).alloc (by first | (simp; done) | (simp; omega)) _
  have HT0 : Hid (FtAt ((((w.alloc (.cells #[.slice A1 n1 c1, .slice A2 n2 c2] 24)).alloc (.cells #[.slice B1 m1 d1, .slice B2 m2 d2] 24)).alloc (.cells #[.int .i64 a, .int .i64 b, .bool h] 26)).alloc (.cells #[.int .i64 a', .int .i64 b', .bool h'] 26)) w.heap.size (.slice A1 n1 c1) (.slice A2 n2 c2)) := (FtAt.at_ w w.heap.size (.slice A1 n1 c1) (.slice A2 n2 c2) 24 rfl rfl rfl).keep ((((Below.refl _ _).alloc (Nat.le_refl _) (.cells #[.slice B1 m1 d1, .slice B2 m2 d2] 24)).alloc (by first | (simp; done) | (simp; omega)) (.cells #[.int .i64 a, .int .i64 b, .bool h] 26)).alloc (by first | (simp; done) | (simp; omega)) (.cells #[.int .i64 a', .int .i64 b', .bool h'] 26))
  have HT1 : Hid (FtAt ((((w.alloc (.cells #[.slice A1 n1 c1, .slice A2 n2 c2] 24)).alloc (.cells #[.slice B1 m1 d1, .slice B2 m2 d2] 24)).alloc (.cells #[.int .i64 a, .int .i64 b, .bool h] 26)).alloc (.cells #[.int .i64 a', .int .i64 b', .bool h'] 26)) (w.heap.size + 1) (.slice B1 m1 d1) (.slice B2 m2 d2)) := (FtAt.at_ (w.alloc (.cells #[.slice A1 n1 c1, .slice A2 n2 c2] 24)) (w.heap.size + 1) (.slice B1 m1 d1) (.slice B2 m2 d2) 24 rfl rfl (by simp)).keep (((Below.refl _ _).alloc (Nat.le_refl _) (.cells #[.int .i64 a, .int .i64 b, .bool h] 26)).alloc (by first | (simp; done) | (simp; omega)) (.cells #[.int .i64 a', .int .i64 b', .bool h'] 26))
  have HL0 : Hid (LvAt ((((w.alloc (.cells #[.slice A1 n1 c1, .slice A2 n2 c2] 24)).alloc (.cells #[.slice B1 m1 d1, .slice B2 m2 d2] 24)).alloc (.cells #[.int .i64 a, .int .i64 b, .bool h] 26)).alloc (.cells #[.int .i64 a', .int .i64 b', .bool h'] 26)) (w.heap.size + 2) a b h) := (LvAt.at_ ((w.alloc (.cells #[.slice A1 n1 c1, .slice A2 n2 c2] 24)).alloc (.cells #[.slice B1 m1 d1, .slice B2 m2 d2] 24)) (w.heap.size + 2) a b h 26 (by simp)).keep ((Below.refl _ _).alloc (Nat.le_refl _) (.cells #[.int .i64 a', .int .i64 b', .bool h'] 26))
  have HL1 : Hid (LvAt ((((w.alloc (.cells #[.slice A1 n1 c1, .slice A2 n2 c2] 24)).alloc (.cells #[.slice B1 m1 d1, .slice B2 m2 d2] 24)).alloc (.cells #[.int .i64 a, .int .i64 b, .bool h] 26)).alloc (.cells #[.int .i64 a', .int .i64 b', .bool h'] 26)) (w.heap.size + 3) a' b' h') := LvAt.at_ (((w.alloc (.cells #[.slice A1 n1 c1, .slice A2 n2 c2] 24)).alloc (.cells #[.slice B1 m1 d1, .slice B2 m2 d2] 24)).alloc (.cells #[.int .i64 a, .int .i64 b, .bool h] 26)) (w.heap.size + 3) a' b' h' 26 (by simp)
  clear hn
  go_enter Try.func3, Try.ntmps3
  go_wp2_with fail
  refine (awake_any _).mono ?_
  rintro e w1 ⟨rfl, hb⟩
  have HW := Lib.hid (HW0.out.trans (hb.mono HW0.out.size))
  have HT0 := Lib.hid (HT0.out.keep hb)
  obtain ⟨qHT0_0, _, _, qHT0_1, qHT0_2⟩ := HT0.out
  have HT1 := Lib.hid (HT1.out.keep hb)
  obtain ⟨qHT1_0, _, _, qHT1_1, qHT1_2⟩ := HT1.out
  have HL0 := Lib.hid (HL0.out.keep hb)
  obtain ⟨qHL0_0, qHL0_1, qHL0_2, qHL0_3⟩ := HL0.out
  have HL1 := Lib.hid (HL1.out.keep hb)
  obtain ⟨qHL1_0, qHL1_1, qHL1_2, qHL1_3⟩ := HL1.out
  clear hb
  go_wp2_with fail
  go_ret
  exact ⟨rfl, HW.out⟩
theorem is_big1 (A A1 A2 B1 B2 : Option Addr) (n c n1 n2 m1 m2 c1 c2 d1 d2 : Nat) (at_ a b a' b' : Int) (h h' : Bool) (w : World)
    (hn : n ≤ 500)
    (hSmA : ∀ W, Calls Try.prog 10 #[.agg #[.slice A1 n1 c1, .slice A2 n2 c2]] W fun e w' => e = .returned (.bool false) ∧ Below W.heap.size W w')
    : Calls Try.prog 3 #[.slice A n c, .int .i64 at_, .agg #[.slice A1 n1 c1, .slice A2 n2 c2], .agg #[.slice B1 m1 d1, .slice B2 m2 d2], .agg #[.int .i64 a, .int .i64 b, .bool h], .agg #[.int .i64 a', .int .i64 b', .bool h']] w fun e w' => e = .returned (.bool true) ∧ Below w.heap.size w w' := by
  have t1 : decide ((500 : Int) < (n : Int)) = false := by simp; omega
  have HSmA := Lib.hid hSmA
  have HW0 : Hid (Below w.heap.size w ((((w.alloc (.cells #[.slice A1 n1 c1, .slice A2 n2 c2] 24)).alloc (.cells #[.slice B1 m1 d1, .slice B2 m2 d2] 24)).alloc (.cells #[.int .i64 a, .int .i64 b, .bool h] 26)).alloc (.cells #[.int .i64 a', .int .i64 b', .bool h'] 26))) := ((((Below.refl _ _).alloc (Nat.le_refl _) _).alloc (by first | (simp; done) | (simp; omega)) _).alloc (by first | (simp; done) | (simp; omega)) _).alloc (by first | (simp; done) | (simp; omega)) _
  have HT0 : Hid (FtAt ((((w.alloc (.cells #[.slice A1 n1 c1, .slice A2 n2 c2] 24)).alloc (.cells #[.slice B1 m1 d1, .slice B2 m2 d2] 24)).alloc (.cells #[.int .i64 a, .int .i64 b, .bool h] 26)).alloc (.cells #[.int .i64 a', .int .i64 b', .bool h'] 26)) w.heap.size (.slice A1 n1 c1) (.slice A2 n2 c2)) := (FtAt.at_ w w.heap.size (.slice A1 n1 c1) (.slice A2 n2 c2) 24 rfl rfl rfl).keep ((((Below.refl _ _).alloc (Nat.le_refl _) (.cells #[.slice B1 m1 d1, .slice B2 m2 d2] 24)).alloc (by first | (simp; done) | (simp; omega)) (.cells #[.int .i64 a, .int .i64 b, .bool h] 26)).alloc (by first | (simp; done) | (simp; omega)) (.cells #[.int .i64 a', .int .i64 b', .bool h'] 26))
  have HT1 : Hid (FtAt ((((w.alloc (.cells #[.slice A1 n1 c1, .slice A2 n2 c2] 24)).alloc (.cells #[.slice B1 m1 d1, .slice B2 m2 d2] 24)).alloc (.cells #[.int .i64 a, .int .i64 b, .bool h] 26)).alloc (.cells #[.int .i64 a', .int .i64 b', .bool h'] 26)) (w.heap.size + 1) (.slice B1 m1 d1) (.slice B2 m2 d2)) := (FtAt.at_ (w.alloc (.cells #[.slice A1 n1 c1, .slice A2 n2 c2] 24)) (w.heap.size + 1) (.slice B1 m1 d1) (.slice B2 m2 d2) 24 rfl rfl (by simp)).keep (((Below.refl _ _).alloc (Nat.le_refl _) (.cells #[.int .i64 a, .int .i64 b, .bool h] 26)).alloc (by first | (simp; done) | (simp; omega)) (.cells #[.int .i64 a', .int .i64 b', .bool h'] 26))
  have HL0 : Hid (LvAt ((((w.alloc (.cells #[.slice A1 n1 c1, .slice A2 n2 c2] 24)).alloc (.cells #[.slice B1 m1 d1, .slice B2 m2 d2] 24)).alloc (.cells #[.int .i64 a, .int .i64 b, .bool h] 26)).alloc (.cells #[.int .i64 a', .int .i64 b', .bool h'] 26)) (w.heap.size + 2) a b h) := (LvAt.at_ ((w.alloc (.cells #[.slice A1 n1 c1, .slice A2 n2 c2] 24)).alloc (.cells #[.slice B1 m1 d1, .slice B2 m2 d2] 24)) (w.heap.size + 2) a b h 26 (by simp)).keep ((Below.refl _ _).alloc (Nat.le_refl _) (.cells #[.int .i64 a', .int .i64 b', .bool h'] 26))
  have HL1 : Hid (LvAt ((((w.alloc (.cells #[.slice A1 n1 c1, .slice A2 n2 c2] 24)).alloc (.cells #[.slice B1 m1 d1, .slice B2 m2 d2] 24)).alloc (.cells #[.int .i64 a, .int .i64 b, .bool h] 26)).alloc (.cells #[.int .i64 a', .int .i64 b', .bool h'] 26)) (w.heap.size + 3) a' b' h') := LvAt.at_ (((w.alloc (.cells #[.slice A1 n1 c1, .slice A2 n2 c2] 24)).alloc (.cells #[.slice B1 m1 d1, .slice B2 m2 d2] 24)).alloc (.cells #[.int .i64 a, .int .i64 b, .bool h] 26)) (w.heap.size + 3) a' b' h' 26 (by simp)
  clear hn hSmA
  go_enter Try.func3, Try.ntmps3
  go_wp2_with fail
  refine (awake_any _).mono ?_
  rintro e w1 ⟨rfl, hb⟩
  have HW := Lib.hid (HW0.out.trans (hb.mono HW0.out.size))
  have HT0 := Lib.hid (HT0.out.keep hb)
  obtain ⟨qHT0_0, _, _, qHT0_1, qHT0_2⟩ := HT0.out
  have HT1 := Lib.hid (HT1.out.keep hb)
  obtain ⟨qHT1_0, _, _, qHT1_1, qHT1_2⟩ := HT1.out
  have HL0 := Lib.hid (HL0.out.keep hb)
  obtain ⟨qHL0_0, qHL0_1, qHL0_2, qHL0_3⟩ := HL0.out
  have HL1 := Lib.hid (HL1.out.keep hb)
  obtain ⟨qHL1_0, qHL1_1, qHL1_2, qHL1_3⟩ := HL1.out
  clear hb
  go_wp2_with fail
  refine (HSmA.out _).mono ?_
  rintro e wN1 ⟨rfl, hb⟩
  clear qHT0_1 qHT0_2 qHT1_1 qHT1_2 qHL0_1 qHL0_2 qHL0_3 qHL1_1 qHL1_2 qHL1_3
  have hbb := hb
  have HW := Lib.hid (HW.out.trans (hbb.mono HW.out.size))
  have HT0 := Lib.hid (HT0.out.keep hbb)
  have HT1 := Lib.hid (HT1.out.keep hbb)
  have HL0 := Lib.hid (HL0.out.keep hbb)
  have HL1 := Lib.hid (HL1.out.keep hbb)
  clear hb hbb
  obtain ⟨qHT0_0, _, _, qHT0_1, qHT0_2⟩ := HT0.out
  obtain ⟨qHT1_0, _, _, qHT1_1, qHT1_2⟩ := HT1.out
  obtain ⟨qHL0_0, qHL0_1, qHL0_2, qHL0_3⟩ := HL0.out
  obtain ⟨qHL1_0, qHL1_1, qHL1_2, qHL1_3⟩ := HL1.out
  go_wp2_with fail
  go_ret
  exact ⟨rfl, HW.out⟩
theorem is_big2 (A A1 A2 B1 B2 : Option Addr) (n c n1 n2 m1 m2 c1 c2 d1 d2 : Nat) (at_ a b a' b' : Int) (h h' : Bool) (w : World)
    (hn : n ≤ 500)
    (hSmA : ∀ W, Calls Try.prog 10 #[.agg #[.slice A1 n1 c1, .slice A2 n2 c2]] W fun e w' => e = .returned (.bool true) ∧ Below W.heap.size W w')
    (hSmB : ∀ W, Calls Try.prog 10 #[.agg #[.slice B1 m1 d1, .slice B2 m2 d2]] W fun e w' => e = .returned (.bool false) ∧ Below W.heap.size W w')
    : Calls Try.prog 3 #[.slice A n c, .int .i64 at_, .agg #[.slice A1 n1 c1, .slice A2 n2 c2], .agg #[.slice B1 m1 d1, .slice B2 m2 d2], .agg #[.int .i64 a, .int .i64 b, .bool h], .agg #[.int .i64 a', .int .i64 b', .bool h']] w fun e w' => e = .returned (.bool true) ∧ Below w.heap.size w w' := by
  have t1 : decide ((500 : Int) < (n : Int)) = false := by simp; omega
  have HSmA := Lib.hid hSmA
  have HSmB := Lib.hid hSmB
  have HW0 : Hid (Below w.heap.size w ((((w.alloc (.cells #[.slice A1 n1 c1, .slice A2 n2 c2] 24)).alloc (.cells #[.slice B1 m1 d1, .slice B2 m2 d2] 24)).alloc (.cells #[.int .i64 a, .int .i64 b, .bool h] 26)).alloc (.cells #[.int .i64 a', .int .i64 b', .bool h'] 26))) := ((((Below.refl _ _).alloc (Nat.le_refl _) _).alloc (by first | (simp; done) | (simp; omega)) _).alloc (by first | (simp; done) | (simp; omega)) _).alloc (by first | (simp; done) | (simp; omega)) _
  have HT0 : Hid (FtAt ((((w.alloc (.cells #[.slice A1 n1 c1, .slice A2 n2 c2] 24)).alloc (.cells #[.slice B1 m1 d1, .slice B2 m2 d2] 24)).alloc (.cells #[.int .i64 a, .int .i64 b, .bool h] 26)).alloc (.cells #[.int .i64 a', .int .i64 b', .bool h'] 26)) w.heap.size (.slice A1 n1 c1) (.slice A2 n2 c2)) := (FtAt.at_ w w.heap.size (.slice A1 n1 c1) (.slice A2 n2 c2) 24 rfl rfl rfl).keep ((((Below.refl _ _).alloc (Nat.le_refl _) (.cells #[.slice B1 m1 d1, .slice B2 m2 d2] 24)).alloc (by first | (simp; done) | (simp; omega)) (.cells #[.int .i64 a, .int .i64 b, .bool h] 26)).alloc (by first | (simp; done) | (simp; omega)) (.cells #[.int .i64 a', .int .i64 b', .bool h'] 26))
  have HT1 : Hid (FtAt ((((w.alloc (.cells #[.slice A1 n1 c1, .slice A2 n2 c2] 24)).alloc (.cells #[.slice B1 m1 d1, .slice B2 m2 d2] 24)).alloc (.cells #[.int .i64 a, .int .i64 b, .bool h] 26)).alloc (.cells #[.int .i64 a', .int .i64 b', .bool h'] 26)) (w.heap.size + 1) (.slice B1 m1 d1) (.slice B2 m2 d2)) := (FtAt.at_ (w.alloc (.cells #[.slice A1 n1 c1, .slice A2 n2 c2] 24)) (w.heap.size + 1) (.slice B1 m1 d1) (.slice B2 m2 d2) 24 rfl rfl (by simp)).keep (((Below.refl _ _).alloc (Nat.le_refl _) (.cells #[.int .i64 a, .int .i64 b, .bool h] 26)).alloc (by first | (simp; done) | (simp; omega)) (.cells #[.int .i64 a', .int .i64 b', .bool h'] 26))
  have HL0 : Hid (LvAt ((((w.alloc (.cells #[.slice A1 n1 c1, .slice A2 n2 c2] 24)).alloc (.cells #[.slice B1 m1 d1, .slice B2 m2 d2] 24)).alloc (.cells #[.int .i64 a, .int .i64 b, .bool h] 26)).alloc (.cells #[.int .i64 a', .int .i64 b', .bool h'] 26)) (w.heap.size + 2) a b h) := (LvAt.at_ ((w.alloc (.cells #[.slice A1 n1 c1, .slice A2 n2 c2] 24)).alloc (.cells #[.slice B1 m1 d1, .slice B2 m2 d2] 24)) (w.heap.size + 2) a b h 26 (by simp)).keep ((Below.refl _ _).alloc (Nat.le_refl _) (.cells #[.int .i64 a', .int .i64 b', .bool h'] 26))
  have HL1 : Hid (LvAt ((((w.alloc (.cells #[.slice A1 n1 c1, .slice A2 n2 c2] 24)).alloc (.cells #[.slice B1 m1 d1, .slice B2 m2 d2] 24)).alloc (.cells #[.int .i64 a, .int .i64 b, .bool h] 26)).alloc (.cells #[.int .i64 a', .int .i64 b', .bool h'] 26)) (w.heap.size + 3) a' b' h') := LvAt.at_ (((w.alloc (.cells #[.slice A1 n1 c1, .slice A2 n2 c2] 24)).alloc (.cells #[.slice B1 m1 d1, .slice B2 m2 d2] 24)).alloc (.cells #[.int .i64 a, .int .i64 b, .bool h] 26)) (w.heap.size + 3) a' b' h' 26 (by simp)
  clear hn hSmA hSmB
  go_enter Try.func3, Try.ntmps3
  go_wp2_with fail
  refine (awake_any _).mono ?_
  rintro e w1 ⟨rfl, hb⟩
  have HW := Lib.hid (HW0.out.trans (hb.mono HW0.out.size))
  have HT0 := Lib.hid (HT0.out.keep hb)
  obtain ⟨qHT0_0, _, _, qHT0_1, qHT0_2⟩ := HT0.out
  have HT1 := Lib.hid (HT1.out.keep hb)
  obtain ⟨qHT1_0, _, _, qHT1_1, qHT1_2⟩ := HT1.out
  have HL0 := Lib.hid (HL0.out.keep hb)
  obtain ⟨qHL0_0, qHL0_1, qHL0_2, qHL0_3⟩ := HL0.out
  have HL1 := Lib.hid (HL1.out.keep hb)
  obtain ⟨qHL1_0, qHL1_1, qHL1_2, qHL1_3⟩ := HL1.out
  clear hb
  go_wp2_with fail
  refine (HSmA.out _).mono ?_
  rintro e wN1 ⟨rfl, hb⟩
  clear qHT0_1 qHT0_2 qHT1_1 qHT1_2 qHL0_1 qHL0_2 qHL0_3 qHL1_1 qHL1_2 qHL1_3
  have hbb := hb
  have HW := Lib.hid (HW.out.trans (hbb.mono HW.out.size))
  have HT0 := Lib.hid (HT0.out.keep hbb)
  have HT1 := Lib.hid (HT1.out.keep hbb)
  have HL0 := Lib.hid (HL0.out.keep hbb)
  have HL1 := Lib.hid (HL1.out.keep hbb)
  clear hb hbb
  obtain ⟨qHT0_0, _, _, qHT0_1, qHT0_2⟩ := HT0.out
  obtain ⟨qHT1_0, _, _, qHT1_1, qHT1_2⟩ := HT1.out
  obtain ⟨qHL0_0, qHL0_1, qHL0_2, qHL0_3⟩ := HL0.out
  obtain ⟨qHL1_0, qHL1_1, qHL1_2, qHL1_3⟩ := HL1.out
  go_wp2_with fail
  refine (HSmB.out _).mono ?_
  rintro e wN2 ⟨rfl, hb⟩
  clear qHT0_1 qHT0_2 qHT1_1 qHT1_2 qHL0_1 qHL0_2 qHL0_3 qHL1_1 qHL1_2 qHL1_3
  have hbb := hb
  have HW := Lib.hid (HW.out.trans (hbb.mono HW.out.size))
  have HT0 := Lib.hid (HT0.out.keep hbb)
  have HT1 := Lib.hid (HT1.out.keep hbb)
  have HL0 := Lib.hid (HL0.out.keep hbb)
  have HL1 := Lib.hid (HL1.out.keep hbb)
  clear hb hbb
  obtain ⟨qHT0_0, _, _, qHT0_1, qHT0_2⟩ := HT0.out
  obtain ⟨qHT1_0, _, _, qHT1_1, qHT1_2⟩ := HT1.out
  obtain ⟨qHL0_0, qHL0_1, qHL0_2, qHL0_3⟩ := HL0.out
  obtain ⟨qHL1_0, qHL1_1, qHL1_2, qHL1_3⟩ := HL1.out
  go_wp2_with fail
  go_ret
  exact ⟨rfl, HW.out⟩
theorem is_core (A A1 A2 B1 B2 : Option Addr) (n c n1 n2 m1 m2 c1 c2 d1 d2 : Nat) (at_ a b a' b' : Int) (h h' : Bool) (vc vp ve fp fe la lb lp le e1 e2 : Int) (x y : List Int) (lh R1 R2 R3 : Bool) (S1 S2 : ByteArray) (w : World)
    (hn : n ≤ 500)
    (hSmA : ∀ W, Calls Try.prog 10 #[.agg #[.slice A1 n1 c1, .slice A2 n2 c2]] W fun e w' => e = .returned (.bool true) ∧ Below W.heap.size W w')
    (hSmB : ∀ W, Calls Try.prog 10 #[.agg #[.slice B1 m1 d1, .slice B2 m2 d2]] W fun e w' => e = .returned (.bool true) ∧ Below W.heap.size W w')
    (hV1 : ∀ W, Below w.heap.size w W → Calls Try.prog 11 #[.slice A n c, .int .i64 at_] W (VlTold (vc, vp, ve) W))
    (hF1 : ∀ W, Below w.heap.size w W → Calls Try.prog 13 #[.slice A n c, .int .i64 at_] W (FnTold x y fp fe W))
    (hL1 : ∀ W, Below w.heap.size w W → Calls Try.prog 15 #[.slice A n c, .int .i64 at_] W (LmTold la lb lh lp le W))
    (hP1 : ∀ W, Below w.heap.size w W → Calls Try.prog 18 #[.slice A n c, .agg #[.slice A1 n1 c1, .slice A2 n2 c2]] W (LaidS S1 e1 W))
    (hQ1 : ∀ W, Below w.heap.size w W → Calls Try.prog 20 #[.slice A n c, .agg #[.int .i64 a, .int .i64 b, .bool h]] W (LaidS S2 e2 W))
    (hN1 : ∀ W, Below w.heap.size w W → Calls Try.prog 22 #[.agg #[.slice A1 n1 c1, .slice A2 n2 c2]] W fun e w' => e = .returned (.bool R1) ∧ Below W.heap.size W w')
    (hM1 : ∀ W, Below w.heap.size w W → Calls Try.prog 24 #[.agg #[.slice A1 n1 c1, .slice A2 n2 c2], .agg #[.slice B1 m1 d1, .slice B2 m2 d2]] W fun e w' => e = .returned (.bool R2) ∧ Below W.heap.size W w')
    (hI1 : ∀ W, Below w.heap.size w W → Calls Try.prog 25 #[.agg #[.int .i64 a, .int .i64 b, .bool h], .agg #[.int .i64 a', .int .i64 b', .bool h']] W fun e w' => e = .returned (.bool R3) ∧ Below W.heap.size W w')
    (hV2 : ∀ W, Below w.heap.size w W → Calls Try.prog 12 #[.slice A n c, .int .i64 at_] W (VlTold (vc, vp, ve) W))
    (hF2 : ∀ W, Below w.heap.size w W → Calls Try.prog 14 #[.slice A n c, .int .i64 at_] W (FnTold x y fp fe W))
    (hL2 : ∀ W, Below w.heap.size w W → Calls Try.prog 16 #[.slice A n c, .int .i64 at_] W (LmTold la lb lh lp le W))
    (hP2 : ∀ W, Below w.heap.size w W → Calls Try.prog 19 #[.slice A n c, .agg #[.slice A1 n1 c1, .slice A2 n2 c2]] W (LaidS S1 e1 W))
    (hQ2 : ∀ W, Below w.heap.size w W → Calls Try.prog 21 #[.slice A n c, .agg #[.int .i64 a, .int .i64 b, .bool h]] W (LaidS S2 e2 W))
    (hN2 : ∀ W, Below w.heap.size w W → Calls Try.prog 23 #[.agg #[.slice A1 n1 c1, .slice A2 n2 c2]] W fun e w' => e = .returned (.bool R1) ∧ Below W.heap.size W w')
    (hM2 : ∀ W, Below w.heap.size w W → Calls Try.prog 17 #[.agg #[.slice A1 n1 c1, .slice A2 n2 c2], .agg #[.slice B1 m1 d1, .slice B2 m2 d2]] W fun e w' => e = .returned (.bool R2) ∧ Below W.heap.size W w')
    (hI2 : ∀ W, Below w.heap.size w W → Calls Try.prog 26 #[.agg #[.int .i64 a, .int .i64 b, .bool h], .agg #[.int .i64 a', .int .i64 b', .bool h']] W fun e w' => e = .returned (.bool R3) ∧ Below W.heap.size W w')
    (hE : ∀ W u v u2 v2, Below w.heap.size w W → Sl W u x → Sl W v y → Sl W u2 x → Sl W v2 y → Calls Try.prog 17 #[.agg #[u, v], .agg #[u2, v2]] W fun e w' => e = .returned (.bool true) ∧ Below W.heap.size W w')
    : Calls Try.prog 3 #[.slice A n c, .int .i64 at_, .agg #[.slice A1 n1 c1, .slice A2 n2 c2], .agg #[.slice B1 m1 d1, .slice B2 m2 d2], .agg #[.int .i64 a, .int .i64 b, .bool h], .agg #[.int .i64 a', .int .i64 b', .bool h']] w fun e w' => e = .returned (.bool true) ∧ Below w.heap.size w w' := by
  have t1 : decide ((500 : Int) < (n : Int)) = false := by simp; omega
  have HSmA := Lib.hid hSmA
  have HSmB := Lib.hid hSmB
  have HV1 := Lib.hid hV1
  have HF1 := Lib.hid hF1
  have HL1c := Lib.hid hL1
  have HP1 := Lib.hid hP1
  have HQ1 := Lib.hid hQ1
  have HN1 := Lib.hid hN1
  have HM1 := Lib.hid hM1
  have HI1 := Lib.hid hI1
  have HV2 := Lib.hid hV2
  have HF2 := Lib.hid hF2
  have HL2c := Lib.hid hL2
  have HP2 := Lib.hid hP2
  have HQ2 := Lib.hid hQ2
  have HN2 := Lib.hid hN2
  have HM2 := Lib.hid hM2
  have HI2 := Lib.hid hI2
  have HE := Lib.hid hE
  have HW0 : Hid (Below w.heap.size w ((((w.alloc (.cells #[.slice A1 n1 c1, .slice A2 n2 c2] 24)).alloc (.cells #[.slice B1 m1 d1, .slice B2 m2 d2] 24)).alloc (.cells #[.int .i64 a, .int .i64 b, .bool h] 26)).alloc (.cells #[.int .i64 a', .int .i64 b', .bool h'] 26))) := ((((Below.refl _ _).alloc (Nat.le_refl _) _).alloc (by first | (simp; done) | (simp; omega)) _).alloc (by first | (simp; done) | (simp; omega)) _).alloc (by first | (simp; done) | (simp; omega)) _
  have HT0 : Hid (FtAt ((((w.alloc (.cells #[.slice A1 n1 c1, .slice A2 n2 c2] 24)).alloc (.cells #[.slice B1 m1 d1, .slice B2 m2 d2] 24)).alloc (.cells #[.int .i64 a, .int .i64 b, .bool h] 26)).alloc (.cells #[.int .i64 a', .int .i64 b', .bool h'] 26)) w.heap.size (.slice A1 n1 c1) (.slice A2 n2 c2)) := (FtAt.at_ w w.heap.size (.slice A1 n1 c1) (.slice A2 n2 c2) 24 rfl rfl rfl).keep ((((Below.refl _ _).alloc (Nat.le_refl _) (.cells #[.slice B1 m1 d1, .slice B2 m2 d2] 24)).alloc (by first | (simp; done) | (simp; omega)) (.cells #[.int .i64 a, .int .i64 b, .bool h] 26)).alloc (by first | (simp; done) | (simp; omega)) (.cells #[.int .i64 a', .int .i64 b', .bool h'] 26))
  have HT1 : Hid (FtAt ((((w.alloc (.cells #[.slice A1 n1 c1, .slice A2 n2 c2] 24)).alloc (.cells #[.slice B1 m1 d1, .slice B2 m2 d2] 24)).alloc (.cells #[.int .i64 a, .int .i64 b, .bool h] 26)).alloc (.cells #[.int .i64 a', .int .i64 b', .bool h'] 26)) (w.heap.size + 1) (.slice B1 m1 d1) (.slice B2 m2 d2)) := (FtAt.at_ (w.alloc (.cells #[.slice A1 n1 c1, .slice A2 n2 c2] 24)) (w.heap.size + 1) (.slice B1 m1 d1) (.slice B2 m2 d2) 24 rfl rfl (by simp)).keep (((Below.refl _ _).alloc (Nat.le_refl _) (.cells #[.int .i64 a, .int .i64 b, .bool h] 26)).alloc (by first | (simp; done) | (simp; omega)) (.cells #[.int .i64 a', .int .i64 b', .bool h'] 26))
  have HL0 : Hid (LvAt ((((w.alloc (.cells #[.slice A1 n1 c1, .slice A2 n2 c2] 24)).alloc (.cells #[.slice B1 m1 d1, .slice B2 m2 d2] 24)).alloc (.cells #[.int .i64 a, .int .i64 b, .bool h] 26)).alloc (.cells #[.int .i64 a', .int .i64 b', .bool h'] 26)) (w.heap.size + 2) a b h) := (LvAt.at_ ((w.alloc (.cells #[.slice A1 n1 c1, .slice A2 n2 c2] 24)).alloc (.cells #[.slice B1 m1 d1, .slice B2 m2 d2] 24)) (w.heap.size + 2) a b h 26 (by simp)).keep ((Below.refl _ _).alloc (Nat.le_refl _) (.cells #[.int .i64 a', .int .i64 b', .bool h'] 26))
  have HL1 : Hid (LvAt ((((w.alloc (.cells #[.slice A1 n1 c1, .slice A2 n2 c2] 24)).alloc (.cells #[.slice B1 m1 d1, .slice B2 m2 d2] 24)).alloc (.cells #[.int .i64 a, .int .i64 b, .bool h] 26)).alloc (.cells #[.int .i64 a', .int .i64 b', .bool h'] 26)) (w.heap.size + 3) a' b' h') := LvAt.at_ (((w.alloc (.cells #[.slice A1 n1 c1, .slice A2 n2 c2] 24)).alloc (.cells #[.slice B1 m1 d1, .slice B2 m2 d2] 24)).alloc (.cells #[.int .i64 a, .int .i64 b, .bool h] 26)) (w.heap.size + 3) a' b' h' 26 (by simp)
  clear hn hSmA hSmB hV1 hF1 hL1 hP1 hQ1 hN1 hM1 hI1 hV2 hF2 hL2 hP2 hQ2 hN2 hM2 hI2 hE
  go_enter Try.func3, Try.ntmps3
  go_wp2_with fail
  refine (awake_any _).mono ?_
  rintro e w1 ⟨rfl, hb⟩
  have HW := Lib.hid (HW0.out.trans (hb.mono HW0.out.size))
  have HT0 := Lib.hid (HT0.out.keep hb)
  obtain ⟨qHT0_0, _, _, qHT0_1, qHT0_2⟩ := HT0.out
  have HT1 := Lib.hid (HT1.out.keep hb)
  obtain ⟨qHT1_0, _, _, qHT1_1, qHT1_2⟩ := HT1.out
  have HL0 := Lib.hid (HL0.out.keep hb)
  obtain ⟨qHL0_0, qHL0_1, qHL0_2, qHL0_3⟩ := HL0.out
  have HL1 := Lib.hid (HL1.out.keep hb)
  obtain ⟨qHL1_0, qHL1_1, qHL1_2, qHL1_3⟩ := HL1.out
  clear hb
  go_wp2_with fail
  refine (HSmA.out _).mono ?_
  rintro e wN1 ⟨rfl, hb⟩
  clear qHT0_1 qHT0_2 qHT1_1 qHT1_2 qHL0_1 qHL0_2 qHL0_3 qHL1_1 qHL1_2 qHL1_3
  have hbb := hb
  have HW := Lib.hid (HW.out.trans (hbb.mono HW.out.size))
  have HT0 := Lib.hid (HT0.out.keep hbb)
  have HT1 := Lib.hid (HT1.out.keep hbb)
  have HL0 := Lib.hid (HL0.out.keep hbb)
  have HL1 := Lib.hid (HL1.out.keep hbb)
  clear hb hbb
  obtain ⟨qHT0_0, _, _, qHT0_1, qHT0_2⟩ := HT0.out
  obtain ⟨qHT1_0, _, _, qHT1_1, qHT1_2⟩ := HT1.out
  obtain ⟨qHL0_0, qHL0_1, qHL0_2, qHL0_3⟩ := HL0.out
  obtain ⟨qHL1_0, qHL1_1, qHL1_2, qHL1_3⟩ := HL1.out
  go_wp2_with fail
  refine (HSmB.out _).mono ?_
  rintro e wN2 ⟨rfl, hb⟩
  clear qHT0_1 qHT0_2 qHT1_1 qHT1_2 qHL0_1 qHL0_2 qHL0_3 qHL1_1 qHL1_2 qHL1_3
  have hbb := hb
  have HW := Lib.hid (HW.out.trans (hbb.mono HW.out.size))
  have HT0 := Lib.hid (HT0.out.keep hbb)
  have HT1 := Lib.hid (HT1.out.keep hbb)
  have HL0 := Lib.hid (HL0.out.keep hbb)
  have HL1 := Lib.hid (HL1.out.keep hbb)
  clear hb hbb
  obtain ⟨qHT0_0, _, _, qHT0_1, qHT0_2⟩ := HT0.out
  obtain ⟨qHT1_0, _, _, qHT1_1, qHT1_2⟩ := HT1.out
  obtain ⟨qHL0_0, qHL0_1, qHL0_2, qHL0_3⟩ := HL0.out
  obtain ⟨qHL1_0, qHL1_1, qHL1_2, qHL1_3⟩ := HL1.out
  go_wp2_with fail
  refine (HV1.out _ HW.out).mono ?_
  rintro e wv ⟨rfl, rfl⟩
  go_wp2_with fail
  refine (HV2.out _ HW.out).mono ?_
  rintro e wv ⟨rfl, rfl⟩
  go_wp2_with fail
  refine (HF1.out _ HW.out).mono ?_
  rintro e wN3 ⟨o1, o2, rfl, ho1, ho2, hb⟩
  clear qHT0_1 qHT0_2 qHT1_1 qHT1_2 qHL0_1 qHL0_2 qHL0_3 qHL1_1 qHL1_2 qHL1_3
  have hbb := hb
  have HW := Lib.hid (HW.out.trans (hbb.mono HW.out.size))
  have HT0 := Lib.hid (HT0.out.keep hbb)
  have HT1 := Lib.hid (HT1.out.keep hbb)
  have HL0 := Lib.hid (HL0.out.keep hbb)
  have HL1 := Lib.hid (HL1.out.keep hbb)
  have HX1 := Lib.hid ho1.sl
  have HY1 := Lib.hid ho2.sl
  obtain ⟨pA, pc, rfl, _⟩ := ho1.sl
  obtain ⟨pB, pd, rfl, _⟩ := ho2.sl
  clear ho1 ho2
  clear hb hbb
  obtain ⟨qHT0_0, _, _, qHT0_1, qHT0_2⟩ := HT0.out
  obtain ⟨qHT1_0, _, _, qHT1_1, qHT1_2⟩ := HT1.out
  obtain ⟨qHL0_0, qHL0_1, qHL0_2, qHL0_3⟩ := HL0.out
  obtain ⟨qHL1_0, qHL1_1, qHL1_2, qHL1_3⟩ := HL1.out
  have HT := Lib.hid ((Below.refl wN3.heap.size wN3).alloc (Nat.le_refl _) (.cells #[.slice pA x.length pc, .slice pB y.length pd] 24))
  go_wp2_with fail
  refine (HF2.out _ (HW.out.trans (HT.out.mono HW.out.size))).mono ?_
  rintro e wN4 ⟨o1, o2, rfl, ho1, ho2, hb⟩
  clear qHT0_1 qHT0_2 qHT1_1 qHT1_2 qHL0_1 qHL0_2 qHL0_3 qHL1_1 qHL1_2 qHL1_3
  have hbb := HT.out.trans (hb.mono HT.out.size)
  have HT2 := Lib.hid ((FtAt.at_ wN3 wN3.heap.size (.slice pA x.length pc) (.slice pB y.length pd) 24 rfl rfl rfl).keep hb)
  have HW := Lib.hid (HW.out.trans (hbb.mono HW.out.size))
  have HT0 := Lib.hid (HT0.out.keep hbb)
  have HT1 := Lib.hid (HT1.out.keep hbb)
  have HL0 := Lib.hid (HL0.out.keep hbb)
  have HL1 := Lib.hid (HL1.out.keep hbb)
  have HX1 := Lib.hid (HX1.out.keep hbb)
  have HY1 := Lib.hid (HY1.out.keep hbb)
  have HX2 := Lib.hid ho1.sl
  have HY2 := Lib.hid ho2.sl
  obtain ⟨rA, rc, rfl, _⟩ := ho1.sl
  obtain ⟨rB, rd, rfl, _⟩ := ho2.sl
  clear ho1 ho2
  clear hb hbb
  obtain ⟨qHT0_0, _, _, qHT0_1, qHT0_2⟩ := HT0.out
  obtain ⟨qHT1_0, _, _, qHT1_1, qHT1_2⟩ := HT1.out
  obtain ⟨qHL0_0, qHL0_1, qHL0_2, qHL0_3⟩ := HL0.out
  obtain ⟨qHL1_0, qHL1_1, qHL1_2, qHL1_3⟩ := HL1.out
  obtain ⟨qHT2_0, _, _, qHT2_1, qHT2_2⟩ := HT2.out
  have HT := Lib.hid ((Below.refl wN4.heap.size wN4).alloc (Nat.le_refl _) (.cells #[.slice rA x.length rc, .slice rB y.length rd] 24))
  go_wp2_with fail
  refine (HL1c.out _ (HW.out.trans (HT.out.mono HW.out.size))).mono ?_
  rintro e wN5 ⟨rfl, hb⟩
  clear qHT0_1 qHT0_2 qHT1_1 qHT1_2 qHL0_1 qHL0_2 qHL0_3 qHL1_1 qHL1_2 qHL1_3 qHT2_1 qHT2_2
  have hbb := HT.out.trans (hb.mono HT.out.size)
  have HT3 := Lib.hid ((FtAt.at_ wN4 wN4.heap.size (.slice rA x.length rc) (.slice rB y.length rd) 24 rfl rfl rfl).keep hb)
  have HW := Lib.hid (HW.out.trans (hbb.mono HW.out.size))
  have HT0 := Lib.hid (HT0.out.keep hbb)
  have HT1 := Lib.hid (HT1.out.keep hbb)
  have HL0 := Lib.hid (HL0.out.keep hbb)
  have HL1 := Lib.hid (HL1.out.keep hbb)
  have HX1 := Lib.hid (HX1.out.keep hbb)
  have HY1 := Lib.hid (HY1.out.keep hbb)
  have HT2 := Lib.hid (HT2.out.keep hbb)
  have HX2 := Lib.hid (HX2.out.keep hbb)
  have HY2 := Lib.hid (HY2.out.keep hbb)
  clear hb hbb
  obtain ⟨qHT0_0, _, _, qHT0_1, qHT0_2⟩ := HT0.out
  obtain ⟨qHT1_0, _, _, qHT1_1, qHT1_2⟩ := HT1.out
  obtain ⟨qHL0_0, qHL0_1, qHL0_2, qHL0_3⟩ := HL0.out
  obtain ⟨qHL1_0, qHL1_1, qHL1_2, qHL1_3⟩ := HL1.out
  obtain ⟨qHT2_0, _, _, qHT2_1, qHT2_2⟩ := HT2.out
  obtain ⟨qHT3_0, _, _, qHT3_1, qHT3_2⟩ := HT3.out
  have HT := Lib.hid ((Below.refl wN5.heap.size wN5).alloc (Nat.le_refl _) (.cells #[.int .i64 la, .int .i64 lb, .bool lh] 26))
  go_wp2_with fail
  refine (HL2c.out _ (HW.out.trans (HT.out.mono HW.out.size))).mono ?_
  rintro e wN6 ⟨rfl, hb⟩
  clear qHT0_1 qHT0_2 qHT1_1 qHT1_2 qHL0_1 qHL0_2 qHL0_3 qHL1_1 qHL1_2 qHL1_3 qHT2_1 qHT2_2 qHT3_1 qHT3_2
  have hbb := HT.out.trans (hb.mono HT.out.size)
  have HL2 := Lib.hid ((LvAt.at_ wN5 wN5.heap.size la lb lh 26 rfl).keep hb)
  have HW := Lib.hid (HW.out.trans (hbb.mono HW.out.size))
  have HT0 := Lib.hid (HT0.out.keep hbb)
  have HT1 := Lib.hid (HT1.out.keep hbb)
  have HL0 := Lib.hid (HL0.out.keep hbb)
  have HL1 := Lib.hid (HL1.out.keep hbb)
  have HX1 := Lib.hid (HX1.out.keep hbb)
  have HY1 := Lib.hid (HY1.out.keep hbb)
  have HT2 := Lib.hid (HT2.out.keep hbb)
  have HX2 := Lib.hid (HX2.out.keep hbb)
  have HY2 := Lib.hid (HY2.out.keep hbb)
  have HT3 := Lib.hid (HT3.out.keep hbb)
  clear hb hbb
  obtain ⟨qHT0_0, _, _, qHT0_1, qHT0_2⟩ := HT0.out
  obtain ⟨qHT1_0, _, _, qHT1_1, qHT1_2⟩ := HT1.out
  obtain ⟨qHL0_0, qHL0_1, qHL0_2, qHL0_3⟩ := HL0.out
  obtain ⟨qHL1_0, qHL1_1, qHL1_2, qHL1_3⟩ := HL1.out
  obtain ⟨qHT2_0, _, _, qHT2_1, qHT2_2⟩ := HT2.out
  obtain ⟨qHT3_0, _, _, qHT3_1, qHT3_2⟩ := HT3.out
  obtain ⟨qHL2_0, qHL2_1, qHL2_2, qHL2_3⟩ := HL2.out
  have HT := Lib.hid ((Below.refl wN6.heap.size wN6).alloc (Nat.le_refl _) (.cells #[.int .i64 la, .int .i64 lb, .bool lh] 26))
  go_wp2_with fail
  refine (HE.out _ _ _ _ _ (HW.out.trans (HT.out.mono HW.out.size)) (HX1.out.keep HT.out) (HY1.out.keep HT.out) (HX2.out.keep HT.out) (HY2.out.keep HT.out)).mono ?_
  rintro e wN7 ⟨rfl, hb⟩
  clear qHT0_1 qHT0_2 qHT1_1 qHT1_2 qHL0_1 qHL0_2 qHL0_3 qHL1_1 qHL1_2 qHL1_3 qHT2_1 qHT2_2 qHT3_1 qHT3_2 qHL2_1 qHL2_2 qHL2_3
  have hbb := HT.out.trans (hb.mono HT.out.size)
  have HL3 := Lib.hid ((LvAt.at_ wN6 wN6.heap.size la lb lh 26 rfl).keep hb)
  have HW := Lib.hid (HW.out.trans (hbb.mono HW.out.size))
  have HT0 := Lib.hid (HT0.out.keep hbb)
  have HT1 := Lib.hid (HT1.out.keep hbb)
  have HL0 := Lib.hid (HL0.out.keep hbb)
  have HL1 := Lib.hid (HL1.out.keep hbb)
  have HX1 := Lib.hid (HX1.out.keep hbb)
  have HY1 := Lib.hid (HY1.out.keep hbb)
  have HT2 := Lib.hid (HT2.out.keep hbb)
  have HX2 := Lib.hid (HX2.out.keep hbb)
  have HY2 := Lib.hid (HY2.out.keep hbb)
  have HT3 := Lib.hid (HT3.out.keep hbb)
  have HL2 := Lib.hid (HL2.out.keep hbb)
  clear hb hbb
  obtain ⟨qHT0_0, _, _, qHT0_1, qHT0_2⟩ := HT0.out
  obtain ⟨qHT1_0, _, _, qHT1_1, qHT1_2⟩ := HT1.out
  obtain ⟨qHL0_0, qHL0_1, qHL0_2, qHL0_3⟩ := HL0.out
  obtain ⟨qHL1_0, qHL1_1, qHL1_2, qHL1_3⟩ := HL1.out
  obtain ⟨qHT2_0, _, _, qHT2_1, qHT2_2⟩ := HT2.out
  obtain ⟨qHT3_0, _, _, qHT3_1, qHT3_2⟩ := HT3.out
  obtain ⟨qHL2_0, qHL2_1, qHL2_2, qHL2_3⟩ := HL2.out
  obtain ⟨qHL3_0, qHL3_1, qHL3_2, qHL3_3⟩ := HL3.out
  go_wp2_with fail
  clear HX1
  clear HY1
  clear HX2
  clear HY2
  clear qHT2_1 qHT2_2
  clear HT2
  clear qHT3_1 qHT3_2
  clear HT3
  clear qHL2_1 qHL2_2 qHL2_3
  clear HL2
  clear qHL3_1 qHL3_2 qHL3_3
  clear HL3
  refine (HP1.out _ HW.out).mono ?_
  rintro e wN8 ⟨X1, k1, j1, rfl, ht, hb⟩
  clear qHT0_1 qHT0_2 qHT1_1 qHT1_2 qHL0_1 qHL0_2 qHL0_3 qHL1_1 qHL1_2 qHL1_3
  have hbb := hb
  have HW := Lib.hid (HW.out.trans (hbb.mono HW.out.size))
  have HT0 := Lib.hid (HT0.out.keep hbb)
  have HT1 := Lib.hid (HT1.out.keep hbb)
  have HL0 := Lib.hid (HL0.out.keep hbb)
  have HL1 := Lib.hid (HL1.out.keep hbb)
  have HZ1 := Lib.hid ht
  clear ht
  clear hb hbb
  obtain ⟨qHT0_0, _, _, qHT0_1, qHT0_2⟩ := HT0.out
  obtain ⟨qHT1_0, _, _, qHT1_1, qHT1_2⟩ := HT1.out
  obtain ⟨qHL0_0, qHL0_1, qHL0_2, qHL0_3⟩ := HL0.out
  obtain ⟨qHL1_0, qHL1_1, qHL1_2, qHL1_3⟩ := HL1.out
  go_wp2_with fail
  refine (HP2.out _ HW.out).mono ?_
  rintro e wN9 ⟨X2, k2, j2, rfl, ht, hb⟩
  clear qHT0_1 qHT0_2 qHT1_1 qHT1_2 qHL0_1 qHL0_2 qHL0_3 qHL1_1 qHL1_2 qHL1_3
  have hbb := hb
  have HW := Lib.hid (HW.out.trans (hbb.mono HW.out.size))
  have HT0 := Lib.hid (HT0.out.keep hbb)
  have HT1 := Lib.hid (HT1.out.keep hbb)
  have HL0 := Lib.hid (HL0.out.keep hbb)
  have HL1 := Lib.hid (HL1.out.keep hbb)
  have HZ1 := Lib.hid (HZ1.out.keep hbb)
  have HZ2 := Lib.hid ht
  clear ht
  clear hb hbb
  obtain ⟨qHT0_0, _, _, qHT0_1, qHT0_2⟩ := HT0.out
  obtain ⟨qHT1_0, _, _, qHT1_1, qHT1_2⟩ := HT1.out
  obtain ⟨qHL0_0, qHL0_1, qHL0_2, qHL0_3⟩ := HL0.out
  obtain ⟨qHL1_0, qHL1_1, qHL1_2, qHL1_3⟩ := HL1.out
  go_wp2_with fail
  refine (HQ1.out _ HW.out).mono ?_
  rintro e wN10 ⟨Y1, g1, f1, rfl, ht, hb⟩
  clear qHT0_1 qHT0_2 qHT1_1 qHT1_2 qHL0_1 qHL0_2 qHL0_3 qHL1_1 qHL1_2 qHL1_3
  have hbb := hb
  have HW := Lib.hid (HW.out.trans (hbb.mono HW.out.size))
  have HT0 := Lib.hid (HT0.out.keep hbb)
  have HT1 := Lib.hid (HT1.out.keep hbb)
  have HL0 := Lib.hid (HL0.out.keep hbb)
  have HL1 := Lib.hid (HL1.out.keep hbb)
  have HZ1 := Lib.hid (HZ1.out.keep hbb)
  have HZ2 := Lib.hid (HZ2.out.keep hbb)
  have HU1 := Lib.hid ht
  clear ht
  clear hb hbb
  obtain ⟨qHT0_0, _, _, qHT0_1, qHT0_2⟩ := HT0.out
  obtain ⟨qHT1_0, _, _, qHT1_1, qHT1_2⟩ := HT1.out
  obtain ⟨qHL0_0, qHL0_1, qHL0_2, qHL0_3⟩ := HL0.out
  obtain ⟨qHL1_0, qHL1_1, qHL1_2, qHL1_3⟩ := HL1.out
  go_wp2_with fail
  refine (HQ2.out _ HW.out).mono ?_
  rintro e wN11 ⟨Y2, g2, f2, rfl, ht, hb⟩
  clear qHT0_1 qHT0_2 qHT1_1 qHT1_2 qHL0_1 qHL0_2 qHL0_3 qHL1_1 qHL1_2 qHL1_3
  have hbb := hb
  have HW := Lib.hid (HW.out.trans (hbb.mono HW.out.size))
  have HT0 := Lib.hid (HT0.out.keep hbb)
  have HT1 := Lib.hid (HT1.out.keep hbb)
  have HL0 := Lib.hid (HL0.out.keep hbb)
  have HL1 := Lib.hid (HL1.out.keep hbb)
  have HZ1 := Lib.hid (HZ1.out.keep hbb)
  have HZ2 := Lib.hid (HZ2.out.keep hbb)
  have HU1 := Lib.hid (HU1.out.keep hbb)
  have HU2 := Lib.hid ht
  clear ht
  clear hb hbb
  obtain ⟨qHT0_0, _, _, qHT0_1, qHT0_2⟩ := HT0.out
  obtain ⟨qHT1_0, _, _, qHT1_1, qHT1_2⟩ := HT1.out
  obtain ⟨qHL0_0, qHL0_1, qHL0_2, qHL0_3⟩ := HL0.out
  obtain ⟨qHL1_0, qHL1_1, qHL1_2, qHL1_3⟩ := HL1.out
  go_wp2_with fail
  refine Stab.region 211 [.is (.bool true), .is (.bool true), .is (.slice X1 k1 j1), .is (.string S1), .is (.slice X2 k2 j2), .is (.string S1), .is (.bool true), .is (.bool true), .is (.bool true), .is (.int .i64 e1), .is (.int .i64 e1), .is (.bool true), .is (.bool true), .is (.bool true), .is (.slice Y1 g1 f1), .is (.string S2), .is (.slice Y2 g2 f2), .is (.string S2), .is (.bool true), .is (.bool true), .is (.bool true), .is (.int .i64 e2), .is (.int .i64 e2), .is (.bool true), .is (.bool true), .is (.bool true), .is (.agg #[.slice A1 n1 c1, .slice A2 n2 c2]), .is (.bool R1), .is (.agg #[.slice A1 n1 c1, .slice A2 n2 c2]), .is (.bool R1), .is (.bool true), .is (.bool true), .is (.bool true), .is (.agg #[.slice A1 n1 c1, .slice A2 n2 c2]), .is (.agg #[.slice B1 m1 d1, .slice B2 m2 d2]), .is (.bool R2), .is (.agg #[.slice A1 n1 c1, .slice A2 n2 c2]), .is (.agg #[.slice B1 m1 d1, .slice B2 m2 d2]), .is (.bool R2), .is (.bool true), .is (.bool true), .is (.bool true), .is (lv a b h), .is (lv a' b' h'), .is (.bool R3), .is (lv a b h), .is (lv a' b' h'), .is (.bool R3), .is (.bool true), .is (.bool true), .is (.bool true)] (by kernel_rfl) (by kernel_rfl) rfl rfl ?_ ?_
  · with_reducible refine Stab.steps_cons ?_ ?_ ?_
    · exact Stab.owes_move rfl rfl rfl
    · exact trivial
    with_reducible refine Stab.steps_cons ?_ ?_ ?_
    · exact Stab.owes_move rfl rfl rfl
    · exact trivial
    with_reducible refine Stab.steps_cons ?_ ?_ ?_
    · exact Stab.owes_move rfl rfl rfl
    · exact trivial
    with_reducible refine Stab.steps_cons ?_ ?_ ?_
    · exact Stab.owes_convert rfl (fun x W hb hx => by subst hx; exact HZ1.out W hb) rfl
    · exact trivial
    with_reducible refine Stab.steps_cons ?_ ?_ ?_
    · exact Stab.owes_move rfl rfl rfl
    · exact trivial
    with_reducible refine Stab.steps_cons ?_ ?_ ?_
    · exact Stab.owes_convert rfl (fun x W hb hx => by subst hx; exact HZ2.out W hb) rfl
    · exact trivial
    with_reducible refine Stab.steps_cons ?_ ?_ ?_
    · exact Stab.owes_bin rfl rfl rfl (fun W => run_eqs1 _ _ _ W) rfl
    · exact trivial
    with_reducible refine Stab.steps_cons ?_ ?_ ?_
    · exact Stab.owes_pick rfl rfl rfl rfl
    · exact trivial
    with_reducible refine Stab.steps_cons ?_ ?_ ?_
    · exact Stab.owes_move rfl rfl rfl
    · exact trivial
    with_reducible refine Stab.steps_cons ?_ ?_ ?_
    · exact Stab.owes_move rfl rfl rfl
    · exact trivial
    with_reducible refine Stab.steps_cons ?_ ?_ ?_
    · exact Stab.owes_move rfl rfl rfl
    · exact trivial
    with_reducible refine Stab.steps_cons ?_ ?_ ?_
    · exact Stab.owes_bin rfl rfl rfl (fun W => run_eqe _ _ _ W) rfl
    · exact trivial
    with_reducible refine Stab.steps_cons ?_ ?_ ?_
    · exact Stab.owes_pick rfl rfl rfl rfl
    · exact trivial
    with_reducible refine Stab.steps_cons ?_ ?_ ?_
    · exact Stab.owes_move rfl rfl rfl
    · exact trivial
    with_reducible refine Stab.steps_cons ?_ ?_ ?_
    · exact Stab.owes_move rfl rfl rfl
    · exact trivial
    with_reducible refine Stab.steps_cons ?_ ?_ ?_
    · exact Stab.owes_convert rfl (fun x W hb hx => by subst hx; exact HU1.out W hb) rfl
    · exact trivial
    with_reducible refine Stab.steps_cons ?_ ?_ ?_
    · exact Stab.owes_move rfl rfl rfl
    · exact trivial
    with_reducible refine Stab.steps_cons ?_ ?_ ?_
    · exact Stab.owes_convert rfl (fun x W hb hx => by subst hx; exact HU2.out W hb) rfl
    · exact trivial
    with_reducible refine Stab.steps_cons ?_ ?_ ?_
    · exact Stab.owes_bin rfl rfl rfl (fun W => run_eqs1 _ _ _ W) rfl
    · exact trivial
    with_reducible refine Stab.steps_cons ?_ ?_ ?_
    · exact Stab.owes_pick rfl rfl rfl rfl
    · exact trivial
    with_reducible refine Stab.steps_cons ?_ ?_ ?_
    · exact Stab.owes_move rfl rfl rfl
    · exact trivial
    with_reducible refine Stab.steps_cons ?_ ?_ ?_
    · exact Stab.owes_move rfl rfl rfl
    · exact trivial
    with_reducible refine Stab.steps_cons ?_ ?_ ?_
    · exact Stab.owes_move rfl rfl rfl
    · exact trivial
    with_reducible refine Stab.steps_cons ?_ ?_ ?_
    · exact Stab.owes_bin rfl rfl rfl (fun W => run_eqe _ _ _ W) rfl
    · exact trivial
    with_reducible refine Stab.steps_cons ?_ ?_ ?_
    · exact Stab.owes_pick rfl rfl rfl rfl
    · exact trivial
    with_reducible refine Stab.steps_cons ?_ ?_ ?_
    · exact Stab.owes_move rfl rfl rfl
    · exact trivial
    with_reducible refine Stab.steps_cons ?_ ?_ ?_
    · exact Stab.owes_load rfl (fun v W hb hv => by subst hv; exact (HT0.out.keep hb).run) rfl
    · exact trivial
    with_reducible refine Stab.steps_cons ?_ ?_ ?_
    · (refine Stab.owes_call Try.func22 (by kernel_rfl) (by kernel_rfl) rfl (fun vs W hb hall => ?_) rfl; obtain ⟨_, _, rfl, rfl, rfl⟩ := hall; refine (HN1.out W (HW.out.trans (hb.mono HW.out.size))).mono ?_; rintro e w2 ⟨rfl, hb2⟩; exact ⟨_, rfl, hb2, rfl⟩)
    · exact trivial
    with_reducible refine Stab.steps_cons ?_ ?_ ?_
    · exact Stab.owes_load rfl (fun v W hb hv => by subst hv; exact (HT0.out.keep hb).run) rfl
    · exact trivial
    with_reducible refine Stab.steps_cons ?_ ?_ ?_
    · (refine Stab.owes_call Try.func23 (by kernel_rfl) (by kernel_rfl) rfl (fun vs W hb hall => ?_) rfl; obtain ⟨_, _, rfl, rfl, rfl⟩ := hall; refine (HN2.out W (HW.out.trans (hb.mono HW.out.size))).mono ?_; rintro e w2 ⟨rfl, hb2⟩; exact ⟨_, rfl, hb2, rfl⟩)
    · exact trivial
    with_reducible refine Stab.steps_cons ?_ ?_ ?_
    · exact Stab.owes_bin rfl rfl rfl (fun W => run_eqb _ _ R1 W) rfl
    · exact trivial
    with_reducible refine Stab.steps_cons ?_ ?_ ?_
    · exact Stab.owes_pick rfl rfl rfl rfl
    · exact trivial
    with_reducible refine Stab.steps_cons ?_ ?_ ?_
    · exact Stab.owes_move rfl rfl rfl
    · exact trivial
    with_reducible refine Stab.steps_cons ?_ ?_ ?_
    · exact Stab.owes_load rfl (fun v W hb hv => by subst hv; exact (HT0.out.keep hb).run) rfl
    · exact trivial
    with_reducible refine Stab.steps_cons ?_ ?_ ?_
    · exact Stab.owes_load rfl (fun v W hb hv => by subst hv; exact (HT1.out.keep hb).run) rfl
    · exact trivial
    with_reducible refine Stab.steps_cons ?_ ?_ ?_
    · (refine Stab.owes_call Try.func24 (by kernel_rfl) (by kernel_rfl) rfl (fun vs W hb hall => ?_) rfl; obtain ⟨_, _, rfl, rfl, _, _, rfl, rfl, rfl⟩ := hall; refine (HM1.out W (HW.out.trans (hb.mono HW.out.size))).mono ?_; rintro e w2 ⟨rfl, hb2⟩; exact ⟨_, rfl, hb2, rfl⟩)
    · exact trivial
    with_reducible refine Stab.steps_cons ?_ ?_ ?_
    · exact Stab.owes_load rfl (fun v W hb hv => by subst hv; exact (HT0.out.keep hb).run) rfl
    · exact trivial
    with_reducible refine Stab.steps_cons ?_ ?_ ?_
    · exact Stab.owes_load rfl (fun v W hb hv => by subst hv; exact (HT1.out.keep hb).run) rfl
    · exact trivial
    with_reducible refine Stab.steps_cons ?_ ?_ ?_
    · (refine Stab.owes_call Try.func17 (by kernel_rfl) (by kernel_rfl) rfl (fun vs W hb hall => ?_) rfl; obtain ⟨_, _, rfl, rfl, _, _, rfl, rfl, rfl⟩ := hall; refine (HM2.out W (HW.out.trans (hb.mono HW.out.size))).mono ?_; rintro e w2 ⟨rfl, hb2⟩; exact ⟨_, rfl, hb2, rfl⟩)
    · exact trivial
    with_reducible refine Stab.steps_cons ?_ ?_ ?_
    · exact Stab.owes_bin rfl rfl rfl (fun W => run_eqb _ _ R2 W) rfl
    · exact trivial
    with_reducible refine Stab.steps_cons ?_ ?_ ?_
    · exact Stab.owes_pick rfl rfl rfl rfl
    · exact trivial
    with_reducible refine Stab.steps_cons ?_ ?_ ?_
    · exact Stab.owes_move rfl rfl rfl
    · exact trivial
    with_reducible refine Stab.steps_cons ?_ ?_ ?_
    · exact Stab.owes_load rfl (fun v W hb hv => by subst hv; exact (HL0.out.keep hb).run) rfl
    · exact trivial
    with_reducible refine Stab.steps_cons ?_ ?_ ?_
    · exact Stab.owes_load rfl (fun v W hb hv => by subst hv; exact (HL1.out.keep hb).run) rfl
    · exact trivial
    with_reducible refine Stab.steps_cons ?_ ?_ ?_
    · (refine Stab.owes_call Try.func25 (by kernel_rfl) (by kernel_rfl) rfl (fun vs W hb hall => ?_) rfl; obtain ⟨_, _, rfl, rfl, _, _, rfl, rfl, rfl⟩ := hall; refine (HI1.out W (HW.out.trans (hb.mono HW.out.size))).mono ?_; rintro e w2 ⟨rfl, hb2⟩; exact ⟨_, rfl, hb2, rfl⟩)
    · exact trivial
    with_reducible refine Stab.steps_cons ?_ ?_ ?_
    · exact Stab.owes_load rfl (fun v W hb hv => by subst hv; exact (HL0.out.keep hb).run) rfl
    · exact trivial
    with_reducible refine Stab.steps_cons ?_ ?_ ?_
    · exact Stab.owes_load rfl (fun v W hb hv => by subst hv; exact (HL1.out.keep hb).run) rfl
    · exact trivial
    with_reducible refine Stab.steps_cons ?_ ?_ ?_
    · (refine Stab.owes_call Try.func26 (by kernel_rfl) (by kernel_rfl) rfl (fun vs W hb hall => ?_) rfl; obtain ⟨_, _, rfl, rfl, _, _, rfl, rfl, rfl⟩ := hall; refine (HI2.out W (HW.out.trans (hb.mono HW.out.size))).mono ?_; rintro e w2 ⟨rfl, hb2⟩; exact ⟨_, rfl, hb2, rfl⟩)
    · exact trivial
    with_reducible refine Stab.steps_cons ?_ ?_ ?_
    · exact Stab.owes_bin rfl rfl rfl (fun W => run_eqb _ _ R3 W) rfl
    · exact trivial
    with_reducible refine Stab.steps_cons ?_ ?_ ?_
    · exact Stab.owes_pick rfl rfl rfl rfl
    · exact trivial
    with_reducible refine Stab.steps_cons ?_ ?_ ?_
    · exact Stab.owes_assign rfl rfl rfl
    · exact trivial
    exact Stab.steps_nil
  · intro W hb _
    simp only [Act.put, List.setIfInBounds_toArray, List.set_cons_succ, List.set_cons_zero]
    go_wp2
    go_ret
    exact ⟨rfl, HW.out.trans (hb.mono HW.out.size)⟩
theorem isV_byte {x : Int} (h : isV x = true) : 0 ≤ x ∧ x < 256 := by
  have : x = 127 ∨ x = 126 := by simpa [isV] using h
  omega
theorem vs_byte (l : List Int) (k : Nat) (M : Int) : ∀ z ∈ (vs l k M).1, 0 ≤ z ∧ z < 256 := by
  unfold vs
  cases hr : Leb.rdl Leb.fitU 32 (l.drop k) 0 0 with
  | short => intro z hz; cases hz
  | form => intro z hz; cases hz
  | ok n m =>
    show ∀ z ∈ (vsN l (k + m / 7) n M).1, _
    unfold vsN
    by_cases hn : M < (n : Int)
    · rw [if_pos hn]; intro z hz; cases hz
    · rw [if_neg hn]
      rcases vbad_ways n (l.drop (k + m / 7)) with ⟨h1, _, h3⟩ | h1 | h1
      · rw [if_pos h1]; exact fun z hz => isV_byte (h3 z hz)
      · rw [if_neg (by omega)]; intro z hz; cases hz
      · rw [if_neg (by omega)]; intro z hz; cases hz
theorem fn_byte (l : List Int) (at_ : Int) : (∀ z ∈ (fn l at_).1, 0 ≤ z ∧ z < 256) ∧ ∀ z ∈ (fn l at_).2.1, 0 ≤ z ∧ z < 256 := by
  have hn : (∀ z ∈ ([] : List Int), 0 ≤ z ∧ z < 256) := fun z hz => by cases hz
  unfold fn
  split
  · exact ⟨hn, hn⟩
  · split
    · exact ⟨hn, hn⟩
    · unfold fn1
      split
      · exact ⟨hn, hn⟩
      · unfold fn2
        split
        · exact ⟨hn, hn⟩
        · exact ⟨vs_byte _ _ _, vs_byte _ _ _⟩
theorem is_law (A A1 A2 B1 B2 : Option Addr) (n c n1 n2 m1 m2 c1 c2 d1 d2 : Nat) (z z1 z2 y1 y2 : List Int) (at_ a b a' b' : Int) (h h' : Bool) (w : World) (r0 : Leb.Came .u8 w A n c z) (r1 : Leb.Came .u8 w A1 n1 c1 z1) (r2 : Leb.Came .u8 w A2 n2 c2 z2) (r3 : Leb.Came .u8 w B1 m1 d1 y1) (r4 : Leb.Came .u8 w B2 m2 d2 y2) :
    Calls Try.prog 3 #[.slice A n c, .int .i64 at_, .agg #[.slice A1 n1 c1, .slice A2 n2 c2], .agg #[.slice B1 m1 d1, .slice B2 m2 d2], lv a b h, lv a' b' h'] w fun e w' => e = .returned (.bool true) ∧ Below w.heap.size w w' := by
  obtain ⟨p0, _⟩ := came_parts r0
  obtain ⟨s0, g0⟩ := came_sl r0
  obtain ⟨p1, _⟩ := came_parts r1
  obtain ⟨s1, g1⟩ := came_sl r1
  obtain ⟨p2, _⟩ := came_parts r2
  obtain ⟨s2, g2⟩ := came_sl r2
  obtain ⟨p3, _⟩ := came_parts r3
  obtain ⟨s3, g3⟩ := came_sl r3
  obtain ⟨p4, _⟩ := came_parts r4
  obtain ⟨s4, g4⟩ := came_sl r4
  revert s0 g0 p0 s1 g1 p1 s2 g2 p2 s3 g3 p3 s4 g4 p4
  generalize z.take n = l
  generalize z1.take n1 = p
  generalize z2.take n2 = r
  generalize y1.take m1 = q
  generalize y2.take m2 = s
  intro p0 s0 g0 p1 s1 g1 p2 s2 g2 p3 s3 g3 p4 s4 g4
  unfold lv
  by_cases hn : n ≤ 500
  · have hA : ∀ W, Calls Try.prog 10 #[.agg #[.slice A1 n1 c1, .slice A2 n2 c2]] W fun e w' => e = .returned (.bool (smB n1 n2)) ∧ Below W.heap.size W w' := fun W => small_any A1 A2 n1 n2 c1 c2 W
    have hB : ∀ W, Calls Try.prog 10 #[.agg #[.slice B1 m1 d1, .slice B2 m2 d2]] W fun e w' => e = .returned (.bool (smB m1 m2)) ∧ Below W.heap.size W w' := fun W => small_any B1 B2 m1 m2 d1 d2 W
    cases hs1 : smB n1 n2 with
    | false => rw [hs1] at hA; exact is_big1 A A1 A2 B1 B2 n c n1 n2 m1 m2 c1 c2 d1 d2 at_ a b a' b' h h' w hn hA
    | true =>
      rw [hs1] at hA
      obtain ⟨l1, l2⟩ := smB_true hs1
      cases hs2 : smB m1 m2 with
      | false => rw [hs2] at hB; exact is_big2 A A1 A2 B1 B2 n c n1 n2 m1 m2 c1 c2 d1 d2 at_ a b a' b' h h' w hn hA hB
      | true =>
        rw [hs2] at hB
        obtain ⟨l3, l4⟩ := smB_true hs2
        obtain ⟨S1, e1, hS1⟩ : ∃ S1 e1, ∀ w e w', PfIs l p r w e w' → LaidS S1 e1 w e w' := by
          cases hsn : sane p r with
          | true => exact ⟨_, _, fun w e w' h => LaidE.s (by unfold PfIs at h; rw [hsn] at h; exact h)⟩
          | false => exact ⟨_, _, fun w e w' h => nil_s (by unfold PfIs at h; rw [hsn] at h; exact h)⟩
        obtain ⟨S2, e2, hS2⟩ : ∃ S2 e2, ∀ w e w', PlIs l a b h w e w' → LaidS S2 e2 w e w' := by
          cases hok : okL a b h with
          | true => exact ⟨_, _, fun w e w' h => LaidE.s (by unfold PlIs at h; rw [hok] at h; exact h)⟩
          | false => exact ⟨_, _, fun w e w' h => nil_s (by unfold PlIs at h; rw [hok] at h; exact h)⟩
        have hfb : (∀ z ∈ (fn l at_).1, 0 ≤ z ∧ z < 256) ∧ ∀ z ∈ (fn l at_).2.1, 0 ≤ z ∧ z < 256 := fn_byte l at_
        refine is_core A A1 A2 B1 B2 n c n1 n2 m1 m2 c1 c2 d1 d2 at_ a b a' b' h h' (vl l at_).1 (vl l at_).2.1 (vl l at_).2.2 (fn l at_).2.2.1 (fn l at_).2.2.2 (lm l at_).1 (lm l at_).2.1 (lm l at_).2.2.2.1 (lm l at_).2.2.2.2 e1 e2 (fn l at_).1 (fn l at_).2.1 (lm l at_).2.2.1 (sane p r) (smL p r q s) (wi a b h a' b' h') S1 S2 w hn hA hB ?_ ?_ ?_ ?_ ?_ ?_ ?_ ?_ ?_ ?_ ?_ ?_ ?_ ?_ ?_ ?_ ?_
        · exact fun W hW => val_any _ l at_ W (s0.keep hW) (by omega)
        · exact fun W hW => func_any _ l at_ W g0 (s0.keep hW) (by omega)
        · exact fun W hW => lim_any _ l at_ W g0 (s0.keep hW) (by omega)
        · exact fun W hW => (putFunc_any _ _ _ l p r W (s0.keep hW) (s1.keep hW) (s2.keep hW) (by omega) (by omega) (by omega)).mono fun e w' h => hS1 W e w' h
        · exact fun W hW => (putLim_any _ l a b h W (s0.keep hW) (by omega)).mono fun e w' h => hS2 W e w' h
        · exact fun W hW => sane_any _ _ p r W (s1.keep hW) (s2.keep hW) (by omega) (by omega)
        · exact fun W hW => same_any _ _ _ _ p r q s W (s1.keep hW) (s2.keep hW) (s3.keep hW) (s4.keep hW) g1 g2 g3 g4
        · exact fun W _ => within_any a b a' b' h h' W
        · exact fun W hW => rval_any _ l at_ W (s0.keep hW) (by omega)
        · exact fun W hW => rfunc_any _ l at_ W g0 (s0.keep hW) (by omega)
        · exact fun W hW => rlim_any _ l at_ W g0 (s0.keep hW) (by omega)
        · exact fun W hW => (rputFunc_any _ _ _ l p r W (s0.keep hW) (s1.keep hW) (s2.keep hW) (by omega) (by omega) (by omega)).mono fun e w' h => hS1 W e w' h
        · exact fun W hW => (rputLim_any _ l a b h W (s0.keep hW) (by omega)).mono fun e w' h => hS2 W e w' h
        · exact fun W hW => rsane_any _ _ p r W (s1.keep hW) (s2.keep hW) (by omega) (by omega)
        · exact fun W hW => rsame_any _ _ _ _ p r q s W (s1.keep hW) (s2.keep hW) (s3.keep hW) (s4.keep hW) g1 g2 g3 g4
        · exact fun W _ => rwithin_any a b a' b' h h' W
        · intro W u v u2 v2 _ k1 k2 k3 k4
          have := rsame_any u v u2 v2 _ _ _ _ W k1 k2 k3 k4 hfb.1 hfb.2 hfb.1 hfb.2
          rwa [show smL (fn l at_).1 (fn l at_).2.1 (fn l at_).1 (fn l at_).2.1 = true from by unfold smL; simp] at this
  · exact is_big0 A A1 A2 B1 B2 n c n1 n2 m1 m2 c1 c2 d1 d2 at_ a b a' b' h h' w (by omega)
end Go.Proofs.Ytnminpbnlcgblaa.Typ
