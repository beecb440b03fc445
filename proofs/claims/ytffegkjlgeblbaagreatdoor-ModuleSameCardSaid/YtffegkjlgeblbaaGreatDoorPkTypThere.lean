/- TypPutM, TypThere. -/
import Derived.Test.YtffegkjlgeblbaaGreatDoorPkTypPutL
section
/- Limits, laid: where they may be. -/
namespace Go.Proofs.YtffegkjlgeblbaaGreatDoor.Typ
open Go.RowKit
set_option maxRecDepth 100000
set_option maxHeartbeats 1000000

theorem putLim_false (A0 : Option Addr) (nb c0 : Nat) (a : Int) (K1 L4 : List Int) (w : World) (ha0 : 0 ≤ a) (ha1 : a ≤ 4294967295) (ho : okL a 0 false = true)
    (h1 : ∀ W, Below w.heap.size w W → Calls Tryz.prog 69 #[.slice (some ⟨W.heap.size, 0, none⟩) 1 1, .int .u64 a] (W.alloc (.cells #[.int .u8 0] 5)) (Leb.Laid (W.alloc (.cells #[.int .u8 0] 5)) K1))
    (h3 : ∀ W g n d, Below w.heap.size w W → Leb.Own W w.heap.size (.slice (some ⟨g, 0, none⟩) n d) K1 → Calls Tryz.prog 226 #[.slice (some ⟨W.heap.size, 0, none⟩) 2 2] (W.alloc (.cells #[.slice A0 nb c0, .slice (some ⟨g, 0, none⟩) n d] 22)) (Leb.Laid (W.alloc (.cells #[.slice A0 nb c0, .slice (some ⟨g, 0, none⟩) n d] 22)) L4)) :
    Calls Tryz.prog 200 #[.slice A0 nb c0, lv a 0 false] w (LaidE L4 0 w) := by
  have HN := Lib.hid (fun W => laidOf_any a 0 false W)
  have HE := Lib.hid (fun x y W => ne_lv x y a 0 (u32 a) (bif false then u32 0 else 0) false false W)
  rw [show (a == u32 a && (0 == (bif false then u32 0 else 0) && false == false)) = true from ho] at HE
  rw [show lv (u32 a) (bif false then u32 0 else 0) false = lo a 0 false from rfl] at HE
  have HA := Lib.hid (LvAt.new w a 0 false 61)
  have HW : Hid (Below w.heap.size w (w.alloc (.cells #[.int .i64 a, .int .i64 0, .bool false] 61))) := (Below.refl _ _).alloc (Nat.le_refl _) _
  have H1 := Lib.hid h1
  have H3 := Lib.hid h3
  have wa : IntKind.u64.wrap a = a := by rw [IntKind.wrap_u64]; omega
  clear h1 h3
  generalize lo a 0 false = N at *
  clear ho
  unfold lv at *
  go_enter Tryz.func200, Tryz.ntmps200
  go_wp2_with fail
  refine Stab.region 35 [.is (lv a 0 false), .is (lv a 0 false), .is N, .is (.bool false)] (by kernel_rfl) (by kernel_rfl) rfl rfl ?_ ?_
  · repeat' (first | exact Stab.steps_nil | with_reducible refine Stab.steps_cons ?_ ?_ ?_)
    all_goals first
      | exact trivial
      | exact Stab.owes_load rfl (fun v W hb hv => by subst hv; exact (HA.out.keep hb).run) rfl
      | exact Stab.owes_bin rfl rfl rfl (fun W => HE.out _ _ W) rfl
      | (refine Stab.owes_call Tryz.func227 (by kernel_rfl) (by kernel_rfl) rfl (fun vs W hb hall => ?_) rfl; obtain ⟨_, _, rfl, rfl, rfl⟩ := hall; refine (HN.out W).mono ?_; rintro e w2 ⟨rfl, hb2⟩; exact ⟨_, rfl, hb2, rfl⟩)
  · intro W hb _
    simp only [Act.put, List.setIfInBounds_toArray, List.set_cons_succ, List.set_cons_zero]
    obtain ⟨hz, k0, k1, k2⟩ := HA.out.keep hb
    have HW1 := Lib.hid (HW.out.trans (hb.mono HW.out.size))
    clear hb
    go_wp2_with fail
    refine (H1.out _ HW1.out).mono ?_
    rintro e w2 ⟨v2, rfl, ho2, hb2⟩
    have HB2 := Lib.hid (((Below.refl W.heap.size W).alloc (Nat.le_refl _) (.cells #[.int .u8 0] 5)).trans (hb2.mono (by simp)))
    have HW2 := Lib.hid (HW1.out.trans (HB2.out.mono (Nat.le_of_lt hz)))
    have HO2 := Lib.hid (own_base ho2 (B' := w.heap.size) (by simp; omega))
    have hz2 : w.heap.size < w2.heap.size := Nat.lt_of_lt_of_le hz HB2.out.size
    obtain ⟨⟨g2, d2, rfl⟩, _⟩ := ho2
    clear hb2
    go_wp2_with fail
    refine (H3.out _ _ _ _ HW2.out HO2.out).mono ?_
    rintro e w4 ⟨v4, rfl, ho4, hb4⟩
    have HS4 := Lib.hid (own_sl ho4)
    have HB4 := Lib.hid (HW2.out.trans (((Below.refl w2.heap.size w2).alloc (Nat.le_refl _) (.cells #[.slice A0 nb c0, .slice (some ⟨g2, 0, none⟩) K1.length d2] 22)).trans (hb4.mono (by simp)) |>.mono HW2.out.size))
    obtain ⟨⟨g4, d4, rfl⟩, _⟩ := ho4
    clear hb4
    go_wp2_with fail
    go_ret2
    exact ⟨_, rfl, HS4.out, HB4.out⟩
theorem putLim_true (A0 : Option Addr) (nb c0 : Nat) (a b : Int) (K1 K2 L4 : List Int) (w : World) (ha0 : 0 ≤ a) (ha1 : a ≤ 4294967295) (hb0 : 0 ≤ b) (hb1 : b ≤ 4294967295) (ho : okL a b true = true)
    (h1 : ∀ W, Below w.heap.size w W → Calls Tryz.prog 69 #[.slice (some ⟨W.heap.size, 0, none⟩) 1 1, .int .u64 a] (W.alloc (.cells #[.int .u8 1] 5)) (Leb.Laid (W.alloc (.cells #[.int .u8 1] 5)) K1))
    (h2 : ∀ W g n d, Below w.heap.size w W → Leb.Own W w.heap.size (.slice (some ⟨g, 0, none⟩) n d) K1 → Calls Tryz.prog 69 #[.slice (some ⟨g, 0, none⟩) n d, .int .u64 b] W (Leb.Laid W K2))
    (h3 : ∀ W g n d, Below w.heap.size w W → Leb.Own W w.heap.size (.slice (some ⟨g, 0, none⟩) n d) K2 → Calls Tryz.prog 226 #[.slice (some ⟨W.heap.size, 0, none⟩) 2 2] (W.alloc (.cells #[.slice A0 nb c0, .slice (some ⟨g, 0, none⟩) n d] 22)) (Leb.Laid (W.alloc (.cells #[.slice A0 nb c0, .slice (some ⟨g, 0, none⟩) n d] 22)) L4)) :
    Calls Tryz.prog 200 #[.slice A0 nb c0, lv a b true] w (LaidE L4 0 w) := by
  have HN := Lib.hid (fun W => laidOf_any a b true W)
  have HE := Lib.hid (fun x y W => ne_lv x y a b (u32 a) (bif true then u32 b else 0) true true W)
  rw [show (a == u32 a && (b == (bif true then u32 b else 0) && true == true)) = true from ho] at HE
  rw [show lv (u32 a) (bif true then u32 b else 0) true = lo a b true from rfl] at HE
  have HA := Lib.hid (LvAt.new w a b true 61)
  have HW : Hid (Below w.heap.size w (w.alloc (.cells #[.int .i64 a, .int .i64 b, .bool true] 61))) := (Below.refl _ _).alloc (Nat.le_refl _) _
  have H1 := Lib.hid h1
  have H2 := Lib.hid h2
  have H3 := Lib.hid h3
  have wa : IntKind.u64.wrap a = a := by rw [IntKind.wrap_u64]; omega
  have wb : IntKind.u64.wrap b = b := by rw [IntKind.wrap_u64]; omega
  clear h1 h2 h3
  generalize lo a b true = N at *
  clear ho
  unfold lv at *
  go_enter Tryz.func200, Tryz.ntmps200
  go_wp2_with fail
  refine Stab.region 35 [.is (lv a b true), .is (lv a b true), .is N, .is (.bool false)] (by kernel_rfl) (by kernel_rfl) rfl rfl ?_ ?_
  · repeat' (first | exact Stab.steps_nil | with_reducible refine Stab.steps_cons ?_ ?_ ?_)
    all_goals first
      | exact trivial
      | exact Stab.owes_load rfl (fun v W hb hv => by subst hv; exact (HA.out.keep hb).run) rfl
      | exact Stab.owes_bin rfl rfl rfl (fun W => HE.out _ _ W) rfl
      | (refine Stab.owes_call Tryz.func227 (by kernel_rfl) (by kernel_rfl) rfl (fun vs W hb hall => ?_) rfl; obtain ⟨_, _, rfl, rfl, rfl⟩ := hall; refine (HN.out W).mono ?_; rintro e w2 ⟨rfl, hb2⟩; exact ⟨_, rfl, hb2, rfl⟩)
  · intro W hb _
    simp only [Act.put, List.setIfInBounds_toArray, List.set_cons_succ, List.set_cons_zero]
    obtain ⟨hz, k0, k1, k2⟩ := HA.out.keep hb
    have HW1 := Lib.hid (HW.out.trans (hb.mono HW.out.size))
    clear hb
    go_wp2_with fail
    refine (H1.out _ HW1.out).mono ?_
    rintro e w2 ⟨v2, rfl, ho2, hb2⟩
    have HB2 := Lib.hid (((Below.refl W.heap.size W).alloc (Nat.le_refl _) (.cells #[.int .u8 1] 5)).trans (hb2.mono (by simp)))
    have HW2 := Lib.hid (HW1.out.trans (HB2.out.mono (Nat.le_of_lt hz)))
    have HO2 := Lib.hid (own_base ho2 (B' := w.heap.size) (by simp; omega))
    have hz2 : w.heap.size < w2.heap.size := Nat.lt_of_lt_of_le hz HB2.out.size
    have k1 := (HB2.out.cell (p := ⟨w.heap.size, 1, none⟩) hz).trans k1
    obtain ⟨⟨g2, d2, rfl⟩, _⟩ := ho2
    clear hb2 k0 k2
    go_wp2_with fail
    refine (H2.out _ _ _ _ HW2.out HO2.out).mono ?_
    rintro e w3 ⟨v3, rfl, ho3, hb3⟩
    have HW3 := Lib.hid (HW2.out.trans (hb3.mono (Nat.le_of_lt hz2)))
    have HO3 := Lib.hid (own_base ho3 (B' := w.heap.size) (by omega))
    obtain ⟨⟨g3, d3, rfl⟩, _⟩ := ho3
    clear hb3
    go_wp2_with fail
    refine (H3.out _ _ _ _ HW3.out HO3.out).mono ?_
    rintro e w4 ⟨v4, rfl, ho4, hb4⟩
    have HS4 := Lib.hid (own_sl ho4)
    have HB4 := Lib.hid (HW3.out.trans (((Below.refl w3.heap.size w3).alloc (Nat.le_refl _) (.cells #[.slice A0 nb c0, .slice (some ⟨g3, 0, none⟩) K2.length d3] 22)).trans (hb4.mono (by simp)) |>.mono HW3.out.size))
    obtain ⟨⟨g4, d4, rfl⟩, _⟩ := ho4
    clear hb4
    go_wp2_with fail
    go_ret2
    exact ⟨_, rfl, HS4.out, HB4.out⟩
theorem uLen (v : Nat) (h : v < 18446744073709551616) : (Leb.uB v).length ≤ 10 := by rw [Leb.uB_len]; exact Leb.lenU_ten h
theorem putLim_yes (v : Value) (l : List Int) (a b : Int) (h : Bool) (w : World) (hv : Sl w v l) (hl : l.length ≤ 10000) (ho : okL a b h = true) : Calls Tryz.prog 200 #[v, lv a b h] w (PlIs l a b h w) := by
  obtain ⟨a0, a1, b0, b1, hb0⟩ := okL_iff.1 ho
  unfold PlIs
  rw [ho]
  obtain ⟨A0, c0, rfl, _⟩ := id hv
  obtain ⟨x, rfl⟩ := Int.eq_ofNat_of_zero_le a0
  obtain ⟨y, rfl⟩ := Int.eq_ofNat_of_zero_le b0
  have l1 := uLen x (by omega)
  have l2 := uLen y (by omega)
  have hU : ∀ (c : Int) (W : World), Calls Tryz.prog 69 #[.slice (some ⟨W.heap.size, 0, none⟩) 1 1, .int .u64 (x : Int)] (W.alloc (.cells #[.int .u8 c] 5)) (Leb.Laid (W.alloc (.cells #[.int .u8 c] 5)) ([c] ++ Leb.uB x)) := fun c W => Leb.U_any _ 1 x [c] _ (new_byt W c) (by simp) (by omega)
  have hC : ∀ (K : List Int) (W : World) (g n d : Nat), 0 < K.length → K.length ≤ 100 → Below w.heap.size w W → Leb.Own W w.heap.size (.slice (some ⟨g, 0, none⟩) n d) K →
      Calls Tryz.prog 226 #[.slice (some ⟨W.heap.size, 0, none⟩) 2 2] (W.alloc (.cells #[.slice A0 l.length c0, .slice (some ⟨g, 0, none⟩) n d] 22)) (Leb.Laid (W.alloc (.cells #[.slice A0 l.length c0, .slice (some ⟨g, 0, none⟩) n d] 22)) (l ++ K)) := by
    intro K W g n d hK0 hK hW ho
    obtain rfl := own_len ho
    have hM : Below W.heap.size W (W.alloc (.cells #[.slice A0 l.length c0, .slice (some ⟨g, 0, none⟩) K.length d] 22)) := (Below.refl _ _).alloc (Nat.le_refl _) _
    exact concat_any W.heap.size A0 (some ⟨g, 0, none⟩) c0 d l K _ (by simp) (by simp) (by simp) ((hv.keep hW).keep hM).leb ((ho.byt.keep hM).mono hM.size) (by omega) (by omega) (by omega)
  cases h with
  | false =>
    have := hb0 rfl
    obtain rfl : y = 0 := by omega
    exact putLim_false A0 l.length c0 ((x : Nat) : Int) ([0] ++ Leb.uB x) (l ++ ([0] ++ Leb.uB x)) w (by omega) (by omega) ho (fun W _ => hU 0 W) (fun W g n d hW h => hC _ W g n d (by simp) (by simp; omega) hW h)
  | true =>
    refine putLim_true A0 l.length c0 ((x : Nat) : Int) ((y : Nat) : Int) ([1] ++ Leb.uB x) ([1] ++ Leb.uB x ++ Leb.uB y) (l ++ ([1] ++ Leb.uB x ++ Leb.uB y)) w (by omega) (by omega) (by omega) (by omega) ho (fun W _ => hU 1 W) (fun W g n d hW h => ?_) (fun W g n d hW h => hC _ W g n d (by simp) (by simp; omega) hW h)
    obtain rfl := own_len h
    exact Leb.U_any _ d y _ W h.byt (by simp; omega) (by omega)
theorem putLim_any (v : Value) (l : List Int) (a b : Int) (h : Bool) (w : World) (hv : Sl w v l) (hl : l.length ≤ 10000) : Calls Tryz.prog 200 #[v, lv a b h] w (PlIs l a b h w) := by
  cases ho : okL a b h with
  | true => exact putLim_yes v l a b h w hv hl ho
  | false => exact putLim_no v l a b h w ho
end Go.Proofs.YtffegkjlgeblbaaGreatDoor.Typ
end

section
/- What is laid is read; a byte less is too short; what is read is laid in no more bytes. Plain lists. -/
namespace Go.Proofs.YtffegkjlgeblbaaGreatDoor.Typ
open Go.RowKit Leb
set_option maxRecDepth 100000
set_option maxHeartbeats 1000000

theorem uB16 {n : Nat} (h : n ≤ 16) : uB n = [(n : Int)] := uB_small (by omega)
theorem fnB_eq {p r : List Int} (hp : p.length ≤ 16) (hr : r.length ≤ 1) : fnB p r = 96 :: (p.length : Int) :: (p ++ (r.length : Int) :: r) := by
  unfold fnB
  rw [uB16 hp, uB16 (by omega)]
  simp
theorem fnB_len {p r : List Int} (hp : p.length ≤ 16) (hr : r.length ≤ 1) : (fnB p r).length = 3 + p.length + r.length := by
  rw [fnB_eq hp hr]
  simp
  omega
theorem fnB_byte {p r : List Int} (hp : p.length ≤ 16) (hr : r.length ≤ 1) (h1 : ∀ x ∈ p, 0 ≤ x ∧ x < 256) (h2 : ∀ x ∈ r, 0 ≤ x ∧ x < 256) : ∀ x ∈ fnB p r, 0 ≤ x ∧ x < 256 := by
  rw [fnB_eq hp hr]
  intro x hx
  rcases List.mem_cons.1 hx with rfl | hx
  · omega
  · rcases List.mem_cons.1 hx with rfl | hx
    · omega
    · rcases List.mem_append.1 hx with hx | hx
      · exact h1 x hx
      · rcases List.mem_cons.1 hx with rfl | hx
        · omega
        · exact h2 x hx
theorem rdl_small {n : Nat} (h : n ≤ 16) (t : List Int) : rdl fitU 32 ((n : Int) :: t) 0 0 = .ok n 7 := by
  have := back32 (v := n) (by omega) t
  rwa [uB16 h, lenU_small (by omega)] at this
theorem vs_back {l x t : List Int} {k : Nat} {M : Int} (h : l.drop k = (x.length : Int) :: (x ++ t)) (hx : x.length ≤ 16) (hM : (x.length : Int) ≤ M) (hv : allV x = true) : vs l k M = (x, ((k + 1 + x.length : Nat) : Int), 0) := by
  unfold vs
  rw [h, rdl_small hx]
  show vsN l (k + 7 / 7) x.length M = _
  have hd : l.drop (k + 1) = x ++ t := by rw [← List.drop_drop, h]; rfl
  unfold vsN
  rw [if_neg (by omega), show k + 7 / 7 = k + 1 from rfl, hd, if_pos (vbad_mk _ _ (by simp) (by rw [List.take_left]; exact allV_true hv)), List.take_left]
theorem bt_front (b t : List Int) (c : Int) : bt (b ++ c :: t) (b.length : Int) = (c, 0) := by
  rw [bt_in (k := b.length) (by simp)]
  simp
theorem fn_head (b t : List Int) : fn (b ++ 96 :: t) (b.length : Int) = fn1 (b ++ 96 :: t) (vs (b ++ 96 :: t) (b.length + 1) 16) := by
  unfold fn
  rw [bt_front, if_neg (by simp), if_neg (by simp), Int.toNat_natCast]
theorem drop_front (b t : List Int) (c : Int) : (b ++ c :: t).drop (b.length + 1) = t := by
  rw [← List.drop_drop, List.drop_left]; rfl
theorem okL_nat {a b : Int} {h : Bool} (ho : okL a b h = true) : a = (a.toNat : Int) ∧ b = (b.toNat : Int) ∧ a.toNat < 4294967296 ∧ b.toNat < 4294967296 ∧ (h = false → b = 0) := by
  obtain ⟨h1, h2, h3, h4, h5⟩ := okL_iff.1 ho
  exact ⟨by omega, by omega, by omega, by omega, h5⟩
theorem lm_head (b t : List Int) (c : Int) (hc : c = 0 ∨ c = 1) : lm (b ++ c :: t) (b.length : Int) = lm1 (b ++ c :: t) c (b.length + 1) (rdl fitU 32 t 0 0) := by
  unfold lm
  rw [bt_front, if_neg (by simp), if_neg (by show ¬ 1 < c; omega), Int.toNat_natCast, drop_front]
theorem lm1_one (l : List Int) (k n j : Nat) : lm1 l 1 k (.ok n j) = lm2 n (k + j / 7) (rdl fitU 32 (l.drop (k + j / 7)) 0 0) := rfl
theorem lm1_zero (l : List Int) (k n j : Nat) : lm1 l 0 k (.ok n j) = ((n : Int), 0, false, ((k + j / 7 : Nat) : Int), 0) := rfl
theorem div7 (n : Nat) : 7 * n / 7 = n := by omega
end Go.Proofs.YtffegkjlgeblbaaGreatDoor.Typ
end
