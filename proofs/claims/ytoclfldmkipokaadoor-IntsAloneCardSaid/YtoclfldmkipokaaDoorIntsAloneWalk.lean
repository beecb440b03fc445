/- IntsAlone walked: what has one neutral partner is itself. -/
import Derived.Test.YtoclfldmkipokaaDoorIntsPure
namespace Go.Proofs.YtoclfldmkipokaaDoor.Ints
open Go.RowKit
set_option maxRecDepth 100000
set_option maxHeartbeats 1000000

theorem al_add {t x : Int} (ht : isT t) (hx : inR t x) : vaL t 106 x 0 = x := by rw [va106 ht, Int.add_zero]; exact md_id ht hx
theorem al_sub {t x : Int} (ht : isT t) : vaL t 107 x x = 0 := by rw [va107 ht, Int.sub_self, Int.zero_emod]
theorem al_mul {t x : Int} (ht : isT t) (hx : inR t x) : vaL t 108 x 1 = x := by rw [va108 ht, Int.mul_one]; exact md_id ht hx
theorem al_divs {t x : Int} (ht : isT t) (hx : inR t x) : vaL t 109 x 1 = x := by rw [va109 ht, sg_one ht, Int.tdiv_one]; exact sg_md ht hx
theorem al_divu {t x : Int} (ht : isT t) (hx : inR t x) : vaL t 110 x 1 = x := by rw [va110 ht hx (one_in t), Int.ediv_one]
theorem al_and {t x : Int} (ht : isT t) (hx : inR t x) : vaL t 113 x x = x := by rw [va113 ht hx hx, Nat.and_self]; exact Int.toNat_of_nonneg hx.1
theorem al_or {t x : Int} (ht : isT t) (hx : inR t x) : vaL t 114 x 0 = x := by
  rw [va114 ht hx (zero_in t)]
  show ((x.toNat ||| 0 : Nat) : Int) = x
  rw [Nat.or_zero]; exact Int.toNat_of_nonneg hx.1
theorem al_xor {t x : Int} (ht : isT t) (hx : inR t x) : vaL t 115 x x = 0 := by rw [va115 ht hx hx, Nat.xor_self]; rfl
theorem tr_s1 {t x : Int} (ht : isT t) : trT t 109 x 1 = 0 := by
  unfold trT
  rw [if_neg (by omega), if_neg (by omega), if_neg]
  intro h
  rw [sg_one ht] at h
  omega
theorem mk_at {op t l x y v : Int} (hB : twB op = true) (hf : famT op = t) (hl : famL op = l) (ht : isT t) (hx : inR t x) (hy : inR t y) (h0 : trT t l x y = 0) (hv : vaL t l x y = v) (W : World) (hT : Tab W) :
    Calls Tryd.prog 18 #[.int .i64 op, .int .u64 x, .int .u64 y] W fun e w' => e = .returned (.tuple #[.int .u64 v, .int .i64 0, .bool true]) ∧ Below W.heap.size W w' :=
  two_at ((tw_va x y hB hf hl ht hx hy h0).1.trans hv) (tw_va x y hB hf hl ht hx hy h0).2 hB (inR_u hx) (inR_u hy) W hT
theorem alone_32 (a x : Int) (w : World) (hx : inR 127 x) (a0 : 0 ≤ a) (hax : a % 4294967296 = x) (hT : Tab w) :
    Calls Tryd.prog 11 #[.int .u64 a, .bool false] w fun e w' => e = .returned (.bool true) ∧ Below w.heap.size w w' := by
  have ht : isT 127 := .inl rfl
  have H0 := Lib.hid awake_any
  have H1 := Lib.hid (mk_at (op := 106) (l := 106) (by decide) (by decide) (by decide) ht hx (zero_in _) (tr_no (by omega)) (al_add ht hx))
  have H2 := Lib.hid (mk_at (op := 107) (l := 107) (by decide) (by decide) (by decide) ht hx hx (tr_no (by omega)) (al_sub ht))
  have H3 := Lib.hid (mk_at (op := 108) (l := 108) (by decide) (by decide) (by decide) ht hx (one_in _) (tr_no (by omega)) (al_mul ht hx))
  have H4 := Lib.hid (mk_at (op := 109) (l := 109) (by decide) (by decide) (by decide) ht hx (one_in _) (tr_s1 ht) (al_divs ht hx))
  have H5 := Lib.hid (mk_at (op := 110) (l := 110) (by decide) (by decide) (by decide) ht hx (one_in _) (tr_nz (by omega) (by omega)) (al_divu ht hx))
  have H6 := Lib.hid (mk_at (op := 113) (l := 113) (by decide) (by decide) (by decide) ht hx hx (tr_no (by omega)) (al_and ht hx))
  have H7 := Lib.hid (mk_at (op := 114) (l := 114) (by decide) (by decide) (by decide) ht hx (zero_in _) (tr_no (by omega)) (al_or ht hx))
  have H8 := Lib.hid (mk_at (op := 115) (l := 115) (by decide) (by decide) (by decide) ht hx hx (tr_no (by omega)) (al_xor ht hx))
  have HT := Lib.hid hT
  clear hT ht hx
  go_enter Tryd.func11, Tryd.ntmps11
  go_wp2_with fail
  refine (H0.out _ HT.out).mono ?_
  rintro e w1 ⟨rfl, b1⟩
  have HT1 := Lib.hid (HT.out.keep b1)
  go_wp2_with fail
  refine (H1.out _ HT1.out).mono ?_
  rintro e w2 ⟨rfl, b2⟩
  have HT2 := Lib.hid (HT1.out.keep b2)
  go_wp2_with fail
  refine (H2.out _ HT2.out).mono ?_
  rintro e w3 ⟨rfl, b3⟩
  have HT3 := Lib.hid (HT2.out.keep b3)
  go_wp2_with fail
  refine (H3.out _ HT3.out).mono ?_
  rintro e w4 ⟨rfl, b4⟩
  have HT4 := Lib.hid (HT3.out.keep b4)
  go_wp2_with fail
  refine (H4.out _ HT4.out).mono ?_
  rintro e w5 ⟨rfl, b5⟩
  have HT5 := Lib.hid (HT4.out.keep b5)
  go_wp2_with fail
  refine (H5.out _ HT5.out).mono ?_
  rintro e w6 ⟨rfl, b6⟩
  have HT6 := Lib.hid (HT5.out.keep b6)
  go_wp2_with fail
  refine (H6.out _ HT6.out).mono ?_
  rintro e w7 ⟨rfl, b7⟩
  have HT7 := Lib.hid (HT6.out.keep b7)
  go_wp2_with fail
  refine (H7.out _ HT7.out).mono ?_
  rintro e w8 ⟨rfl, b8⟩
  have HT8 := Lib.hid (HT7.out.keep b8)
  go_wp2_with fail
  refine (H8.out _ HT8.out).mono ?_
  rintro e w9 ⟨rfl, b9⟩
  have HT9 := Lib.hid (HT8.out.keep b9)
  go_wp2_with fail
  go_ret
  have c2 := b1.trans (b2.mono b1.size)
  have c3 := c2.trans (b3.mono c2.size)
  have c4 := c3.trans (b4.mono c3.size)
  have c5 := c4.trans (b5.mono c4.size)
  have c6 := c5.trans (b6.mono c5.size)
  have c7 := c6.trans (b7.mono c6.size)
  have c8 := c7.trans (b8.mono c7.size)
  have c9 := c8.trans (b9.mono c8.size)
  exact ⟨rfl, c9⟩
theorem alone_64 (a x : Int) (w : World) (hx : inR 126 x) (a0 : 0 ≤ a) (hax : a = x) (hT : Tab w) :
    Calls Tryd.prog 11 #[.int .u64 a, .bool true] w fun e w' => e = .returned (.bool true) ∧ Below w.heap.size w w' := by
  have ht : isT 126 := .inr rfl
  have H0 := Lib.hid awake_any
  have H1 := Lib.hid (mk_at (op := 124) (l := 106) (by decide) (by decide) (by decide) ht hx (zero_in _) (tr_no (by omega)) (al_add ht hx))
  have H2 := Lib.hid (mk_at (op := 125) (l := 107) (by decide) (by decide) (by decide) ht hx hx (tr_no (by omega)) (al_sub ht))
  have H3 := Lib.hid (mk_at (op := 126) (l := 108) (by decide) (by decide) (by decide) ht hx (one_in _) (tr_no (by omega)) (al_mul ht hx))
  have H4 := Lib.hid (mk_at (op := 127) (l := 109) (by decide) (by decide) (by decide) ht hx (one_in _) (tr_s1 ht) (al_divs ht hx))
  have H5 := Lib.hid (mk_at (op := 128) (l := 110) (by decide) (by decide) (by decide) ht hx (one_in _) (tr_nz (by omega) (by omega)) (al_divu ht hx))
  have H6 := Lib.hid (mk_at (op := 131) (l := 113) (by decide) (by decide) (by decide) ht hx hx (tr_no (by omega)) (al_and ht hx))
  have H7 := Lib.hid (mk_at (op := 132) (l := 114) (by decide) (by decide) (by decide) ht hx (zero_in _) (tr_no (by omega)) (al_or ht hx))
  have H8 := Lib.hid (mk_at (op := 133) (l := 115) (by decide) (by decide) (by decide) ht hx hx (tr_no (by omega)) (al_xor ht hx))
  have HT := Lib.hid hT
  clear hT ht hx
  subst hax
  go_enter Tryd.func11, Tryd.ntmps11
  go_wp2_with fail
  refine (H0.out _ HT.out).mono ?_
  rintro e w1 ⟨rfl, b1⟩
  have HT1 := Lib.hid (HT.out.keep b1)
  go_wp2_with fail
  refine (H1.out _ HT1.out).mono ?_
  rintro e w2 ⟨rfl, b2⟩
  have HT2 := Lib.hid (HT1.out.keep b2)
  go_wp2_with fail
  refine (H2.out _ HT2.out).mono ?_
  rintro e w3 ⟨rfl, b3⟩
  have HT3 := Lib.hid (HT2.out.keep b3)
  go_wp2_with fail
  refine (H3.out _ HT3.out).mono ?_
  rintro e w4 ⟨rfl, b4⟩
  have HT4 := Lib.hid (HT3.out.keep b4)
  go_wp2_with fail
  refine (H4.out _ HT4.out).mono ?_
  rintro e w5 ⟨rfl, b5⟩
  have HT5 := Lib.hid (HT4.out.keep b5)
  go_wp2_with fail
  refine (H5.out _ HT5.out).mono ?_
  rintro e w6 ⟨rfl, b6⟩
  have HT6 := Lib.hid (HT5.out.keep b6)
  go_wp2_with fail
  refine (H6.out _ HT6.out).mono ?_
  rintro e w7 ⟨rfl, b7⟩
  have HT7 := Lib.hid (HT6.out.keep b7)
  go_wp2_with fail
  refine (H7.out _ HT7.out).mono ?_
  rintro e w8 ⟨rfl, b8⟩
  have HT8 := Lib.hid (HT7.out.keep b8)
  go_wp2_with fail
  refine (H8.out _ HT8.out).mono ?_
  rintro e w9 ⟨rfl, b9⟩
  have HT9 := Lib.hid (HT8.out.keep b9)
  go_wp2_with fail
  go_ret
  have c2 := b1.trans (b2.mono b1.size)
  have c3 := c2.trans (b3.mono c2.size)
  have c4 := c3.trans (b4.mono c3.size)
  have c5 := c4.trans (b5.mono c4.size)
  have c6 := c5.trans (b6.mono c5.size)
  have c7 := c6.trans (b7.mono c6.size)
  have c8 := c7.trans (b8.mono c7.size)
  have c9 := c8.trans (b9.mono c8.size)
  exact ⟨rfl, c9⟩
theorem alone_any (a : Int) (wide : Bool) (wa : (Lit.int .u64 a).wf = true) (w : World) (hT : Tab w) :
    Calls Tryd.prog 11 #[.int .u64 a, .bool wide] w fun e w' => e = .returned (.bool true) ∧ Below w.heap.size w w' := by
  obtain ⟨a0, a1⟩ := u64_of wa
  cases wide
  · exact alone_32 a _ w (show 0 ≤ a % 4294967296 ∧ a % 4294967296 ≤ 4294967295 by omega) a0 rfl hT
  · exact alone_64 a a w ⟨a0, a1⟩ a0 rfl hT
end Go.Proofs.YtoclfldmkipokaaDoor.Ints
