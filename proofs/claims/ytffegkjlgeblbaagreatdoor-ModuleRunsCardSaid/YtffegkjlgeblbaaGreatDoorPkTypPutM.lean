/- TypWith2, TypPutL, TypPutM. -/
import Derived.Test.YtffegkjlgeblbaaGreatDoorPkTypWithin
section
/- The program's Within. -/
namespace Go.Proofs.YtffegkjlgeblbaaGreatDoor.Typ
open Go.RowKit
set_option maxRecDepth 100000
set_option maxHeartbeats 1000000

theorem run_lv (a b : Int) (h : Bool) (g : Nat) (W : World) (h0 : W.cell? ⟨g, 0, none⟩ = some (.int .i64 a)) (h1 : W.cell? ⟨g, 1, none⟩ = some (.int .i64 b)) (h2 : W.cell? ⟨g, 2, none⟩ = some (.bool h)) : (Instr.loadAt 61 (.pointer (some ⟨g, 0, none⟩))).run Tryz.prog W = .ok (lv a b h) W := by
  unfold lv
  go_simp
/-- Limits that lie in memory. -/
def LvAt (w : World) (g : Nat) (a b : Int) (h : Bool) : Prop := g < w.heap.size ∧ w.cell? ⟨g, 0, none⟩ = some (.int .i64 a) ∧ w.cell? ⟨g, 1, none⟩ = some (.int .i64 b) ∧ w.cell? ⟨g, 2, none⟩ = some (.bool h)
theorem LvAt.keep {w W : World} {g : Nat} {a b : Int} {h : Bool} (x : LvAt w g a b h) (hb : Below w.heap.size w W) : LvAt W g a b h := by
  obtain ⟨h0, h1, h2, h3⟩ := x
  exact ⟨Nat.lt_of_lt_of_le h0 hb.size, by rw [hb.cell (p := ⟨g, 0, none⟩) h0]; exact h1, by rw [hb.cell (p := ⟨g, 1, none⟩) h0]; exact h2, by rw [hb.cell (p := ⟨g, 2, none⟩) h0]; exact h3⟩
theorem LvAt.run {W : World} {g : Nat} {a b : Int} {h : Bool} (x : LvAt W g a b h) : (Instr.loadAt 61 (.pointer (some ⟨g, 0, none⟩))).run Tryz.prog W = .ok (lv a b h) W := run_lv a b h g W x.2.1 x.2.2.1 x.2.2.2
theorem LvAt.at_ (w : World) (g : Nat) (a b : Int) (h : Bool) (t : TypeId) (hg : g = w.heap.size) : LvAt (w.alloc (.cells #[.int .i64 a, .int .i64 b, .bool h] t)) g a b h := by subst hg; exact ⟨by simp, by simp, by simp, by simp⟩
theorem LvAt.new (w : World) (a b : Int) (h : Bool) (t : TypeId) : LvAt (w.alloc (.cells #[.int .i64 a, .int .i64 b, .bool h] t)) w.heap.size a b h := ⟨by simp, by simp, by simp, by simp⟩
end Go.Proofs.YtffegkjlgeblbaaGreatDoor.Typ
end

section
/- Limits, laid: by the program and by the document. -/
namespace Go.Proofs.YtffegkjlgeblbaaGreatDoor.Typ
open Go.RowKit
set_option maxRecDepth 100000
set_option maxHeartbeats 1000000

def u32 (x : Int) : Int := x % 4294967296
/-- As much of limits as bytes can hold. -/
def lo (a b : Int) (h : Bool) : Value := lv (u32 a) (bif h then u32 b else 0) h
theorem laidOf_any (a b : Int) (h : Bool) (w : World) : Calls Tryz.prog 227 #[lv a b h] w (NarTold (lo a b h) w) := by
  unfold lo lv
  cases h with
  | false =>
    go_enter Tryz.func227, Tryz.ntmps227
    go_wp2_with fail
    refine bodyPost_ret (v := .agg #[.int .i64 (u32 a), .int .i64 0, .bool false]) (by simp [results, Tryz.results227, go_sem, u32]) rfl ⟨rfl, ?_⟩
    repeat (first | exact Below.refl _ _ | refine Below.setCell ?_ (by first | (simp; done) | (simp; omega)) _ | refine Below.alloc ?_ (by first | (simp; done) | (simp; omega)) _)
  | true =>
    go_enter Tryz.func227, Tryz.ntmps227
    go_wp2_with fail
    refine bodyPost_ret (v := .agg #[.int .i64 (u32 a), .int .i64 (u32 b), .bool true]) (by simp [results, Tryz.results227, go_sem, u32]) rfl ⟨rfl, ?_⟩
    repeat (first | exact Below.refl _ _ | refine Below.setCell ?_ (by first | (simp; done) | (simp; omega)) _ | refine Below.alloc ?_ (by first | (simp; done) | (simp; omega)) _)
/-- May limits be laid? -/
def okL (a b : Int) (h : Bool) : Bool := a == u32 a && (b == (bif h then u32 b else 0) && h == h)
theorem okL_iff {a b : Int} {h : Bool} : okL a b h = true ↔ 0 ≤ a ∧ a ≤ 4294967295 ∧ 0 ≤ b ∧ b ≤ 4294967295 ∧ (h = false → b = 0) := by
  unfold okL u32
  cases h <;> simp <;> omega
def limB (a b : Int) (h : Bool) : List Int := bif h then [1] ++ Leb.uB a.toNat ++ Leb.uB b.toNat else [0] ++ Leb.uB a.toNat
def PlIs (l : List Int) (a b : Int) (h : Bool) (w : World) (e : Ending) (w' : World) : Prop := bif okL a b h then LaidE (l ++ limB a b h) 0 w e w' else e = .returned (.tuple #[.slice none 0 0, .int .i64 1]) ∧ Below w.heap.size w w'
theorem ne_lv (x y : Operand) (a0 a1 b0 b1 : Int) (ha hb : Bool) (W : World) : (do eqGuard BinOp.neq 61 x y (lv a0 a1 ha) (lv b0 b1 hb); binOp BinOp.neq 61 (lv a0 a1 ha) (lv b0 b1 hb) : Sem Value).run Tryz.prog W = .ok (.bool (!(a0 == b0 && (a1 == b1 && ha == hb)))) W := by
  unfold lv
  go_simp
  by_cases h0 : a0 = b0
  · by_cases h1 : a1 = b1
    · by_cases h2 : ha = hb
      · simp [h0, h1, h2]
      · simp [h0, h1, h2]
    · simp [h0, h1]
  · simp [h0]
theorem putLim_no (v : Value) (l : List Int) (a b : Int) (h : Bool) (w : World) (ho : okL a b h = false) : Calls Tryz.prog 200 #[v, lv a b h] w (PlIs l a b h w) := by
  unfold PlIs
  rw [ho]
  have HN := Lib.hid (fun W => laidOf_any a b h W)
  have HE := Lib.hid (fun x y W => ne_lv x y a b (u32 a) (bif h then u32 b else 0) h h W)
  rw [show (a == u32 a && (b == (bif h then u32 b else 0) && h == h)) = false from ho] at HE
  rw [show lv (u32 a) (bif h then u32 b else 0) h = lo a b h from rfl] at HE
  have HA := Lib.hid (LvAt.new w a b h 61)
  have HW : Hid (Below w.heap.size w (w.alloc (.cells #[.int .i64 a, .int .i64 b, .bool h] 61))) := (Below.refl _ _).alloc (Nat.le_refl _) _
  generalize lo a b h = N at *
  clear ho
  unfold lv at *
  go_enter Tryz.func200, Tryz.ntmps200
  go_wp2_with fail
  refine Stab.region 35 [.is (lv a b h), .is (lv a b h), .is N, .is (.bool true)] (by kernel_rfl) (by kernel_rfl) rfl rfl ?_ ?_
  · repeat' (first | exact Stab.steps_nil | with_reducible refine Stab.steps_cons ?_ ?_ ?_)
    all_goals first
      | exact trivial
      | exact Stab.owes_load rfl (fun v W hb hv => by subst hv; exact (HA.out.keep hb).run) rfl
      | exact Stab.owes_bin rfl rfl rfl (fun W => HE.out _ _ W) rfl
      | (refine Stab.owes_call Tryz.func227 (by kernel_rfl) (by kernel_rfl) rfl (fun vs W hb hall => ?_) rfl; obtain ⟨_, _, rfl, rfl, rfl⟩ := hall; refine (HN.out W).mono ?_; rintro e w2 ⟨rfl, hb2⟩; exact ⟨_, rfl, hb2, rfl⟩)
  · intro W hb _
    simp only [Act.put, List.setIfInBounds_toArray, List.set_cons_succ, List.set_cons_zero]
    go_wp2
    go_ret2
    exact ⟨rfl, HW.out.trans (hb.mono HW.out.size)⟩
end Go.Proofs.YtffegkjlgeblbaaGreatDoor.Typ
end

section
/- Limits, laid: where they may be. -/
namespace Go.Proofs.YtffegkjlgeblbaaGreatDoor.Typ
open Go.RowKit
set_option maxRecDepth 100000
set_option maxHeartbeats 1000000

theorem putLim_false (A0 : Option Addr) (nb c0 : Nat) (a : Int) (K1 L4 : List Int) (w : World) (ha0 : 0 ≤ a) (ha1 : a ≤ 4294967295) (ho : okL a 0 false = true)
    (h1 : ∀ W, Below w.heap.size w W → Calls Tryz.prog 69 #[.slice (some ⟨W.heap.size, 0, none⟩) 1 1, .int .u64 a] (W.alloc (.cells #[.int .u8 0] 5)) (Leb.Laid (W.alloc (.cells #[.int .u8 0] 5)) K1))
    (h3 : ∀ W g n d, Below w.heap.size w W → Leb.Own W w.heap.size (.slice (some ⟨g, 0, none⟩) n d) K1 → Calls Tryz.prog 226 #[.slice (some ⟨W.heap.size, 0, none⟩) 2 2] (W.alloc (.cells #[.slice A0 nb c0, .slice (some ⟨g, 0, none⟩) n d] 22)) (Leb.Laid (W.alloc (.cells #[.slice A0 nb c0, .slice (some ⟨g, 0, none⟩) n d] 22)) L4)) :
    Calls Tryz.prog 200 #[.slice A0 nb c0, lv a 0 false] w (LaidE L4 0 w) := by
  have HN := Lib.hid (fun W => laidOf_any a 0 false W)
  have HE := Lib.hid (fun x y W => ne_lv x y a 0 (u32 a) (bif false then u32 0 else 0) false false W)
  rw [show (a == u32 a && (0 == (bif false then u32 0 else 0) && false == false)) = true from ho] at HE
  rw [show lv (u32 a) (bif false then u32 0 else 0) false = lo a 0 false from rfl] at HE
  have HA := Lib.hid (LvAt.new w a 0 false 61)
  have HW : Hid (Below w.heap.size w (w.alloc (.cells #[.int .i64 a, .int .i64 0, .bool false] 61))) := (Below.refl _ _).alloc (Nat.le_refl _) _
  have H1 := Lib.hid h1
  have H3 := Lib.hid h3
  have wa : IntKind.u64.wrap a = a := by rw [IntKind.wrap_u64]; omega
  clear h1 h3
  generalize lo a 0 false = N at *
  clear ho
  unfold lv at *
  go_enter Tryz.func200, Tryz.ntmps200
  go_wp2_with fail
  refine Stab.region 35 [.is (lv a 0 false), .is (lv a 0 false), .is N, .is (.bool false)] (by kernel_rfl) (by kernel_rfl) rfl rfl ?_ ?_
  · repeat' (first | exact Stab.steps_nil | with_reducible refine Stab.steps_cons ?_ ?_ ?_)
    all_goals first
      | exact trivial
      | exact Stab.owes_load rfl (fun v W hb hv => by subst hv; exact (HA.out.keep hb).run) rfl
      | exact Stab.owes_bin rfl rfl rfl (fun W => HE.out _ _ W) rfl
      | (refine Stab.owes_call Tryz.func227 (by kernel_rfl) (by kernel_rfl) rfl (fun vs W hb hall => ?_) rfl; obtain ⟨_, _, rfl, rfl, rfl⟩ := hall; refine (HN.out W).mono ?_; rintro e w2 ⟨rfl, hb2⟩; exact ⟨_, rfl, hb2, rfl⟩)
  · intro W hb _
    simp only [Act.put, List.setIfInBounds_toArray, List.set_cons_succ, List.set_cons_zero]
    obtain ⟨hz, k0, k1, k2⟩ := HA.out.keep hb
    have HW1 := Lib.hid (HW.out.trans (hb.mono HW.out.size))
    clear hb
    go_wp2_with fail
    refine (H1.out _ HW1.out).mono ?_
    rintro e w2 ⟨v2, rfl, ho2, hb2⟩
    have HB2 := Lib.hid (((Below.refl W.heap.size W).alloc (Nat.le_refl _) (.cells #[.int .u8 0] 5)).trans (hb2.mono (by simp)))
    have HW2 := Lib.hid (HW1.out.trans (HB2.out.mono (Nat.le_of_lt hz)))
    have HO2 := Lib.hid (own_base ho2 (B' := w.heap.size) (by simp; omega))
    have hz2 : w.heap.size < w2.heap.size := Nat.lt_of_lt_of_le hz HB2.out.size
    obtain ⟨⟨g2, d2, rfl⟩, _⟩ := ho2
    clear hb2
    go_wp2_with fail
    refine (H3.out _ _ _ _ HW2.out HO2.out).mono ?_
    rintro e w4 ⟨v4, rfl, ho4, hb4⟩
    have HS4 := Lib.hid (own_sl ho4)
    have HB4 := Lib.hid (HW2.out.trans (((Below.refl w2.heap.size w2).alloc (Nat.le_refl _) (.cells #[.slice A0 nb c0, .slice (some ⟨g2, 0, none⟩) K1.length d2] 22)).trans (hb4.mono (by simp)) |>.mono HW2.out.size))
    obtain ⟨⟨g4, d4, rfl⟩, _⟩ := ho4
    clear hb4
    go_wp2_with fail
    go_ret2
    exact ⟨_, rfl, HS4.out, HB4.out⟩
theorem putLim_true (A0 : Option Addr) (nb c0 : Nat) (a b : Int) (K1 K2 L4 : List Int) (w : World) (ha0 : 0 ≤ a) (ha1 : a ≤ 4294967295) (hb0 : 0 ≤ b) (hb1 : b ≤ 4294967295) (ho : okL a b true = true)
    (h1 : ∀ W, Below w.heap.size w W → Calls Tryz.prog 69 #[.slice (some ⟨W.heap.size, 0, none⟩) 1 1, .int .u64 a] (W.alloc (.cells #[.int .u8 1] 5)) (Leb.Laid (W.alloc (.cells #[.int .u8 1] 5)) K1))
    (h2 : ∀ W g n d, Below w.heap.size w W → Leb.Own W w.heap.size (.slice (some ⟨g, 0, none⟩) n d) K1 → Calls Tryz.prog 69 #[.slice (some ⟨g, 0, none⟩) n d, .int .u64 b] W (Leb.Laid W K2))
    (h3 : ∀ W g n d, Below w.heap.size w W → Leb.Own W w.heap.size (.slice (some ⟨g, 0, none⟩) n d) K2 → Calls Tryz.prog 226 #[.slice (some ⟨W.heap.size, 0, none⟩) 2 2] (W.alloc (.cells #[.slice A0 nb c0, .slice (some ⟨g, 0, none⟩) n d] 22)) (Leb.Laid (W.alloc (.cells #[.slice A0 nb c0, .slice (some ⟨g, 0, none⟩) n d] 22)) L4)) :
    Calls Tryz.prog 200 #[.slice A0 nb c0, lv a b true] w (LaidE L4 0 w) := by
  have HN := Lib.hid (fun W => laidOf_any a b true W)
  have HE := Lib.hid (fun x y W => ne_lv x y a b (u32 a) (bif true then u32 b else 0) true true W)
  rw [show (a == u32 a && (b == (bif true then u32 b else 0) && true == true)) = true from ho] at HE
  rw [show lv (u32 a) (bif true then u32 b else 0) true = lo a b true from rfl] at HE
  have HA := Lib.hid (LvAt.new w a b true 61)
  have HW : Hid (Below w.heap.size w (w.alloc (.cells #[.int .i64 a, .int .i64 b, .bool true] 61))) := (Below.refl _ _).alloc (Nat.le_refl _) _
  have H1 := Lib.hid h1
  have H2 := Lib.hid h2
  have H3 := Lib.hid h3
  have wa : IntKind.u64.wrap a = a := by rw [IntKind.wrap_u64]; omega
  have wb : IntKind.u64.wrap b = b := by rw [IntKind.wrap_u64]; omega
  clear h1 h2 h3
  generalize lo a b true = N at *
  clear ho
  unfold lv at *
  go_enter Tryz.func200, Tryz.ntmps200
  go_wp2_with fail
  refine Stab.region 35 [.is (lv a b true), .is (lv a b true), .is N, .is (.bool false)] (by kernel_rfl) (by kernel_rfl) rfl rfl ?_ ?_
  · repeat' (first | exact Stab.steps_nil | with_reducible refine Stab.steps_cons ?_ ?_ ?_)
    all_goals first
      | exact trivial
      | exact Stab.owes_load rfl (fun v W hb hv => by subst hv; exact (HA.out.keep hb).run) rfl
      | exact Stab.owes_bin rfl rfl rfl (fun W => HE.out _ _ W) rfl
      | (refine Stab.owes_call Tryz.func227 (by kernel_rfl) (by kernel_rfl) rfl (fun vs W hb hall => ?_) rfl; obtain ⟨_, _, rfl, rfl, rfl⟩ := hall; refine (HN.out W).mono ?_; rintro e w2 ⟨rfl, hb2⟩; exact ⟨_, rfl, hb2, rfl⟩)
  · intro W hb _
    simp only [Act.put, List.setIfInBounds_toArray, List.set_cons_succ, List.set_cons_zero]
    obtain ⟨hz, k0, k1, k2⟩ := HA.out.keep hb
    have HW1 := Lib.hid (HW.out.trans (hb.mono HW.out.size))
    clear hb
    go_wp2_with fail
    refine (H1.out _ HW1.out).mono ?_
    rintro e w2 ⟨v2, rfl, ho2, hb2⟩
    have HB2 := Lib.hid (((Below.refl W.heap.size W).alloc (Nat.le_refl _) (.cells #[.int .u8 1] 5)).trans (hb2.mono (by simp)))
    have HW2 := Lib.hid (HW1.out.trans (HB2.out.mono (Nat.le_of_lt hz)))
    have HO2 := Lib.hid (own_base ho2 (B' := w.heap.size) (by simp; omega))
    have hz2 : w.heap.size < w2.heap.size := Nat.lt_of_lt_of_le hz HB2.out.size
    have k1 := (HB2.out.cell (p := ⟨w.heap.size, 1, none⟩) hz).trans k1
    obtain ⟨⟨g2, d2, rfl⟩, _⟩ := ho2
    clear hb2 k0 k2
    go_wp2_with fail
    refine (H2.out _ _ _ _ HW2.out HO2.out).mono ?_
    rintro e w3 ⟨v3, rfl, ho3, hb3⟩
    have HW3 := Lib.hid (HW2.out.trans (hb3.mono (Nat.le_of_lt hz2)))
    have HO3 := Lib.hid (own_base ho3 (B' := w.heap.size) (by omega))
    obtain ⟨⟨g3, d3, rfl⟩, _⟩ := ho3
    clear hb3
    go_wp2_with fail
    refine (H3.out _ _ _ _ HW3.out HO3.out).mono ?_
    rintro e w4 ⟨v4, rfl, ho4, hb4⟩
    have HS4 := Lib.hid (own_sl ho4)
    have HB4 := Lib.hid (HW3.out.trans (((Below.refl w3.heap.size w3).alloc (Nat.le_refl _) (.cells #[.slice A0 nb c0, .slice (some ⟨g3, 0, none⟩) K2.length d3] 22)).trans (hb4.mono (by simp)) |>.mono HW3.out.size))
    obtain ⟨⟨g4, d4, rfl⟩, _⟩ := ho4
    clear hb4
    go_wp2_with fail
    go_ret2
    exact ⟨_, rfl, HS4.out, HB4.out⟩
theorem uLen (v : Nat) (h : v < 18446744073709551616) : (Leb.uB v).length ≤ 10 := by rw [Leb.uB_len]; exact Leb.lenU_ten h
theorem putLim_yes (v : Value) (l : List Int) (a b : Int) (h : Bool) (w : World) (hv : Sl w v l) (hl : l.length ≤ 10000) (ho : okL a b h = true) : Calls Tryz.prog 200 #[v, lv a b h] w (PlIs l a b h w) := by
  obtain ⟨a0, a1, b0, b1, hb0⟩ := okL_iff.1 ho
  unfold PlIs
  rw [ho]
  obtain ⟨A0, c0, rfl, _⟩ := id hv
  obtain ⟨x, rfl⟩ := Int.eq_ofNat_of_zero_le a0
  obtain ⟨y, rfl⟩ := Int.eq_ofNat_of_zero_le b0
  have l1 := uLen x (by omega)
  have l2 := uLen y (by omega)
  have hU : ∀ (c : Int) (W : World), Calls Tryz.prog 69 #[.slice (some ⟨W.heap.size, 0, none⟩) 1 1, .int .u64 (x : Int)] (W.alloc (.cells #[.int .u8 c] 5)) (Leb.Laid (W.alloc (.cells #[.int .u8 c] 5)) ([c] ++ Leb.uB x)) := fun c W => Leb.U_any _ 1 x [c] _ (new_byt W c) (by simp) (by omega)
  have hC : ∀ (K : List Int) (W : World) (g n d : Nat), 0 < K.length → K.length ≤ 100 → Below w.heap.size w W → Leb.Own W w.heap.size (.slice (some ⟨g, 0, none⟩) n d) K →
      Calls Tryz.prog 226 #[.slice (some ⟨W.heap.size, 0, none⟩) 2 2] (W.alloc (.cells #[.slice A0 l.length c0, .slice (some ⟨g, 0, none⟩) n d] 22)) (Leb.Laid (W.alloc (.cells #[.slice A0 l.length c0, .slice (some ⟨g, 0, none⟩) n d] 22)) (l ++ K)) := by
    intro K W g n d hK0 hK hW ho
    obtain rfl := own_len ho
    have hM : Below W.heap.size W (W.alloc (.cells #[.slice A0 l.length c0, .slice (some ⟨g, 0, none⟩) K.length d] 22)) := (Below.refl _ _).alloc (Nat.le_refl _) _
    exact concat_any W.heap.size A0 (some ⟨g, 0, none⟩) c0 d l K _ (by simp) (by simp) (by simp) ((hv.keep hW).keep hM).leb ((ho.byt.keep hM).mono hM.size) (by omega) (by omega) (by omega)
  cases h with
  | false =>
    have := hb0 rfl
    obtain rfl : y = 0 := by omega
    exact putLim_false A0 l.length c0 ((x : Nat) : Int) ([0] ++ Leb.uB x) (l ++ ([0] ++ Leb.uB x)) w (by omega) (by omega) ho (fun W _ => hU 0 W) (fun W g n d hW h => hC _ W g n d (by simp) (by simp; omega) hW h)
  | true =>
    refine putLim_true A0 l.length c0 ((x : Nat) : Int) ((y : Nat) : Int) ([1] ++ Leb.uB x) ([1] ++ Leb.uB x ++ Leb.uB y) (l ++ ([1] ++ Leb.uB x ++ Leb.uB y)) w (by omega) (by omega) (by omega) (by omega) ho (fun W _ => hU 1 W) (fun W g n d hW h => ?_) (fun W g n d hW h => hC _ W g n d (by simp) (by simp; omega) hW h)
    obtain rfl := own_len h
    exact Leb.U_any _ d y _ W h.byt (by simp; omega) (by omega)
theorem putLim_any (v : Value) (l : List Int) (a b : Int) (h : Bool) (w : World) (hv : Sl w v l) (hl : l.length ≤ 10000) : Calls Tryz.prog 200 #[v, lv a b h] w (PlIs l a b h w) := by
  cases ho : okL a b h with
  | true => exact putLim_yes v l a b h w hv hl ho
  | false => exact putLim_no v l a b h w ho
end Go.Proofs.YtffegkjlgeblbaaGreatDoor.Typ
end
