/- Limits, laid: by the program and by the document. -/
import Derived.Test.YtnminpbnlcgblaaTypPutF
import Derived.Test.YtnminpbnlcgblaaTypWith2
namespace Go.Proofs.Ytnminpbnlcgblaa.Typ
open Go.RowKit
set_option maxRecDepth 100000
set_option maxHeartbeats 1000000

def u32 (x : Int) : Int := x % 4294967296
theorem u32_in {x : Int} (h0 : 0 ≤ x) (h1 : x ≤ 4294967295) : u32 x = x := by unfold u32; omega
/-- As much of limits as bytes can hold. -/
def lo (a b : Int) (h : Bool) : Value := lv (u32 a) (bif h then u32 b else 0) h
theorem laidOf_any (a b : Int) (h : Bool) (w : World) : Calls Try.prog 37 #[lv a b h] w (NarTold (lo a b h) w) := by
  unfold lo lv
  cases h with
  | false =>
    go_enter Try.func37, Try.ntmps37
    go_wp2_with fail
    refine bodyPost_ret (v := .agg #[.int .i64 (u32 a), .int .i64 0, .bool false]) (by simp [results, Try.results37, go_sem, u32]) rfl ⟨rfl, ?_⟩
    repeat (first | exact Below.refl _ _ | refine Below.setCell ?_ (by first | (simp; done) | (simp; omega)) _ | refine Below.alloc ?_ (by first | (simp; done) | (simp; omega)) _)
  | true =>
    go_enter Try.func37, Try.ntmps37
    go_wp2_with fail
    refine bodyPost_ret (v := .agg #[.int .i64 (u32 a), .int .i64 (u32 b), .bool true]) (by simp [results, Try.results37, go_sem, u32]) rfl ⟨rfl, ?_⟩
    repeat (first | exact Below.refl _ _ | refine Below.setCell ?_ (by first | (simp; done) | (simp; omega)) _ | refine Below.alloc ?_ (by first | (simp; done) | (simp; omega)) _)
/-- May limits be laid? -/
def okL (a b : Int) (h : Bool) : Bool := a == u32 a && (b == (bif h then u32 b else 0) && h == h)
theorem okL_iff {a b : Int} {h : Bool} : okL a b h = true ↔ 0 ≤ a ∧ a ≤ 4294967295 ∧ 0 ≤ b ∧ b ≤ 4294967295 ∧ (h = false → b = 0) := by
  unfold okL u32
  cases h <;> simp <;> omega
def limB (a b : Int) (h : Bool) : List Int := bif h then [1] ++ Leb.uB a.toNat ++ Leb.uB b.toNat else [0] ++ Leb.uB a.toNat
def PlIs (l : List Int) (a b : Int) (h : Bool) (w : World) (e : Ending) (w' : World) : Prop := bif okL a b h then LaidE (l ++ limB a b h) 0 w e w' else e = .returned (.tuple #[.slice none 0 0, .int .i64 1]) ∧ Below w.heap.size w w'
theorem ne_lv (x y : Operand) (a0 a1 b0 b1 : Int) (ha hb : Bool) (W : World) : (do eqGuard BinOp.neq 26 x y (lv a0 a1 ha) (lv b0 b1 hb); binOp BinOp.neq 26 (lv a0 a1 ha) (lv b0 b1 hb) : Sem Value).run Try.prog W = .ok (.bool (!(a0 == b0 && (a1 == b1 && ha == hb)))) W := by
  unfold lv
  go_simp
  by_cases h0 : a0 = b0
  · by_cases h1 : a1 = b1
    · by_cases h2 : ha = hb
      · simp [h0, h1, h2]
      · simp [h0, h1, h2]
    · simp [h0, h1]
  · simp [h0]
theorem putLim_no (v : Value) (l : List Int) (a b : Int) (h : Bool) (w : World) (ho : okL a b h = false) : Calls Try.prog 20 #[v, lv a b h] w (PlIs l a b h w) := by
  unfold PlIs
  rw [ho]
  have HN := Lib.hid (fun W => laidOf_any a b h W)
  have HE := Lib.hid (fun x y W => ne_lv x y a b (u32 a) (bif h then u32 b else 0) h h W)
  rw [show (a == u32 a && (b == (bif h then u32 b else 0) && h == h)) = false from ho] at HE
  rw [show lv (u32 a) (bif h then u32 b else 0) h = lo a b h from rfl] at HE
  have HA := Lib.hid (LvAt.new w a b h 26)
  have HW : Hid (Below w.heap.size w (w.alloc (.cells #[.int .i64 a, .int .i64 b, .bool h] 26))) := (Below.refl _ _).alloc (Nat.le_refl _) _
  generalize lo a b h = N at *
  clear ho
  unfold lv at *
  go_enter Try.func20, Try.ntmps20
  go_wp2_with fail
  refine Stab.region 35 [.is (lv a b h), .is (lv a b h), .is N, .is (.bool true)] (by kernel_rfl) (by kernel_rfl) rfl rfl ?_ ?_
  · repeat' (first | exact Stab.steps_nil | with_reducible refine Stab.steps_cons ?_ ?_ ?_)
    all_goals first
      | exact trivial
      | exact Stab.owes_load rfl (fun v W hb hv => by subst hv; exact (HA.out.keep hb).run) rfl
      | exact Stab.owes_bin rfl rfl rfl (fun W => HE.out _ _ W) rfl
      | (refine Stab.owes_call Try.func37 (by kernel_rfl) (by kernel_rfl) rfl (fun vs W hb hall => ?_) rfl; obtain ⟨_, _, rfl, rfl, rfl⟩ := hall; refine (HN.out W).mono ?_; rintro e w2 ⟨rfl, hb2⟩; exact ⟨_, rfl, hb2, rfl⟩)
  · intro W hb _
    simp only [Act.put, List.setIfInBounds_toArray, List.set_cons_succ, List.set_cons_zero]
    go_wp2
    go_ret2
    exact ⟨rfl, HW.out.trans (hb.mono HW.out.size)⟩
end Go.Proofs.Ytnminpbnlcgblaa.Typ
