/- IntsOrder walked, 32 digits. -/
import Derived.Test.YtoclfldmkipokaaDoorIntsOrderP
namespace Go.Proofs.YtoclfldmkipokaaDoor.Ints
open Go.RowKit
set_option maxRecDepth 100000
set_option maxHeartbeats 400000

theorem order_32 (a b z : Int) (e n ls gs les ges lu gu leu geu : Bool) (w : World) (hT : Tab w) (hw : ways e n ls gs les ges lu gu leu geu)
    (h0 : CallT 70 a b (b2i e)) (h1 : CallT 71 a b (b2i n)) (h2 : CallT 72 a b (b2i ls)) (h3 : CallT 74 a b (b2i gs)) (h4 : CallT 76 a b (b2i les)) (h5 : CallT 78 a b (b2i ges)) (h6 : CallT 73 a b (b2i lu)) (h7 : CallT 75 a b (b2i gu)) (h8 : CallT 77 a b (b2i leu)) (h9 : CallT 79 a b (b2i geu)) (hz : ∀ W, Tab W → Calls Tryd.prog 16 #[.int .i64 69, .int .u64 a] W fun e w' => e = .returned (.tuple #[.int .u64 z, .bool true]) ∧ Below W.heap.size W w') (hy : CallT 70 a 0 z) :
    Calls Tryd.prog 9 #[.int .u64 a, .int .u64 b, .bool false] w fun e w' => e = .returned (.bool true) ∧ Below w.heap.size w w' := by
  have HA := Lib.hid awake_any
  have H0 := Lib.hid h0
  have H1 := Lib.hid h1
  have H2 := Lib.hid h2
  have H3 := Lib.hid h3
  have H4 := Lib.hid h4
  have H5 := Lib.hid h5
  have H6 := Lib.hid h6
  have H7 := Lib.hid h7
  have H8 := Lib.hid h8
  have H9 := Lib.hid h9
  have HZ := Lib.hid hz
  have HY := Lib.hid hy
  have HT := Lib.hid hT
  clear hT hz hy h0 h1 h2 h3 h4 h5 h6 h7 h8 h9
  rcases hw with hw | hw | hw | hw | hw <;> (simp only [Prod.mk.injEq] at hw; obtain ⟨rfl, rfl, rfl, rfl, rfl, rfl, rfl, rfl, rfl, rfl⟩ := hw; simp only [b2i, if_true, if_false, Bool.false_eq_true] at H0 H1 H2 H3 H4 H5 H6 H7 H8 H9)
  all_goals
    go_enter Tryd.func9, Tryd.ntmps9
    go_wp2_with fail
    refine (HA.out _ HT.out).mono ?_
    rintro e w1 ⟨rfl, b1⟩
    have HT1 := Lib.hid (HT.out.keep b1)
    go_wp2_with fail
    refine (H0.out _ HT1.out).mono ?_
    rintro e w2 ⟨rfl, b2⟩
    have HT2 := Lib.hid (HT1.out.keep b2)
    go_wp2_with fail
    refine (H1.out _ HT2.out).mono ?_
    rintro e w3 ⟨rfl, b3⟩
    have HT3 := Lib.hid (HT2.out.keep b3)
    go_wp2_with fail
    refine wp_loop_rounds 3 ?_
    rw [rounds_succ]
    go_wp2_with fail
    refine (H2.out _ HT3.out).mono ?_
    rintro e w4 ⟨rfl, b4⟩
    have HT4 := Lib.hid (HT3.out.keep b4)
    go_wp2_with fail
    refine (H3.out _ HT4.out).mono ?_
    rintro e w5 ⟨rfl, b5⟩
    have HT5 := Lib.hid (HT4.out.keep b5)
    go_wp2_with fail
    refine (H4.out _ HT5.out).mono ?_
    rintro e w6 ⟨rfl, b6⟩
    have HT6 := Lib.hid (HT5.out.keep b6)
    go_wp2_with fail
    refine (H5.out _ HT6.out).mono ?_
    rintro e w7 ⟨rfl, b7⟩
    have HT7 := Lib.hid (HT6.out.keep b7)
    go_wp2_with fail
    rw [rounds_succ]
    go_wp2_with fail
    refine (H6.out _ HT7.out).mono ?_
    rintro e w8 ⟨rfl, b8⟩
    have HT8 := Lib.hid (HT7.out.keep b8)
    go_wp2_with fail
    refine (H7.out _ HT8.out).mono ?_
    rintro e w9 ⟨rfl, b9⟩
    have HT9 := Lib.hid (HT8.out.keep b9)
    go_wp2_with fail
    refine (H8.out _ HT9.out).mono ?_
    rintro e w10 ⟨rfl, b10⟩
    have HT10 := Lib.hid (HT9.out.keep b10)
    go_wp2_with fail
    refine (H9.out _ HT10.out).mono ?_
    rintro e w11 ⟨rfl, b11⟩
    have HT11 := Lib.hid (HT10.out.keep b11)
    go_wp2_with fail
    rw [rounds_succ]
    go_wp2_with fail
    refine (HZ.out _ HT11.out).mono ?_
    rintro e w12 ⟨rfl, b12⟩
    have HT12 := Lib.hid (HT11.out.keep b12)
    go_wp2_with fail
    refine (HY.out _ HT12.out).mono ?_
    rintro e w13 ⟨rfl, b13⟩
    have HT13 := Lib.hid (HT12.out.keep b13)
    go_wp2_with fail
    go_ret
    have c2 := b1.trans (b2.mono b1.size)
    have c3 := c2.trans (b3.mono c2.size)
    have c4 := c3.trans (b4.mono c3.size)
    have c5 := c4.trans (b5.mono c4.size)
    have c6 := c5.trans (b6.mono c5.size)
    have c7 := c6.trans (b7.mono c6.size)
    have c8 := c7.trans (b8.mono c7.size)
    have c9 := c8.trans (b9.mono c8.size)
    have c10 := c9.trans (b10.mono c9.size)
    have c11 := c10.trans (b11.mono c10.size)
    have c12 := c11.trans (b12.mono c11.size)
    have c13 := c12.trans (b13.mono c12.size)
    exact ⟨rfl, c13⟩
end Go.Proofs.YtoclfldmkipokaaDoor.Ints
