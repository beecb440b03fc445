/- The closure that an operator is, walked. -/
import Derived.Test.YtoclfldmkipokaaDoorIntsRuleOf
import Derived.Test.YtoclfldmkipokaaDoorIntsTrap
import Derived.Laws.Closers25b
namespace Go.Proofs.YtoclfldmkipokaaDoor.Ints
open Go.RowKit
set_option maxRecDepth 100000
set_option maxHeartbeats 400000

theorem loT_in {t a : Int} (ht : isT t) (ha : u64R a) : inR t (loT t a) := by
  rcases ht with rfl | rfl
  · show 0 ≤ a % 4294967296 ∧ a % 4294967296 ≤ 4294967295
    omega
  · exact ha
theorem b01 (B : Bool) : u64R (if B then 1 else 0) := by cases B <;> (constructor <;> simp)
theorem modR (n : Int) : u64R (n % 18446744073709551616) := by constructor <;> omega
theorem wd_le {t : Int} (ht : isT t) : 0 ≤ wdT t ∧ wdT t ≤ 64 := by rcases ht with rfl | rfl <;> decide
theorem bitsR (op : BinOp) (a b : Int) : u64R (bits op .u64 a b) := bits_within op .u64 a b
theorem ite_u {c : Prop} [Decidable c] {x y : Int} (h1 : u64R x) (h2 : u64R y) : u64R (if c then x else y) := by by_cases h : c <;> simp [h, h1, h2]
theorem rV_u {t l a b : Int} (ht : isT t) (hA : okArgs t l a b) : u64R (rV t l a b) := by
  have ha := inR_u hA.1
  have hb := inR_u hA.2.1
  have hbl : (Lib.bitLen a.toNat : Int) ≤ wdT t := by
    rcases ht with rfl | rfl
    · obtain ⟨h0, h1⟩ := inR_32 hA.1
      exact bl_le (k := 32) (by omega) (by omega)
    · obtain ⟨h0, h1⟩ := inR_64 hA.1
      exact bl_le (k := 64) (by omega) (by omega)
  have hw := wd_le ht
  have hpp := popR_le a.toNat 64
  obtain ⟨a0, a1⟩ := ha
  obtain ⟨b0, b1⟩ := hb
  have hp : ∀ k : Nat, 0 ≤ a / 2 ^ k ∧ a / 2 ^ k ≤ a := fun k => ⟨Int.ediv_nonneg a0 (Int.pow_nonneg (by omega)), Int.ediv_le_self _ a0⟩
  have hdv : u64R (a / b) := ⟨Int.ediv_nonneg a0 b0, Int.le_trans (Int.ediv_le_self _ a0) a1⟩
  have hmd : u64R (a % b) := by
    by_cases h : b = 0
    · subst h; rw [Int.emod_zero]; exact ⟨a0, a1⟩
    · have := Int.emod_nonneg a h
      have := Int.emod_lt_of_pos a (show 0 < b by omega)
      constructor <;> omega
  have hq := hp (b % wdT t).toNat
  have hct : Lib.ctz 64 a.toNat ≤ 64 := ctz_le a.toNat (by omega)
  unfold rV
  exact ite_u (by constructor <;> omega) (ite_u (ite_u (by constructor <;> omega) (by constructor <;> omega)) (ite_u (by constructor <;> omega) (ite_u (modR _) (ite_u (modR _) (ite_u (modR _) (ite_u (modR _) (ite_u hdv (ite_u (modR _) (ite_u hmd (ite_u (bitsR _ _ _) (ite_u (bitsR _ _ _) (ite_u (bitsR _ _ _) (ite_u (modR _) (ite_u (modR _) (ite_u ⟨hq.1, Int.le_trans hq.2 a1⟩ (ite_u (bitsR _ _ _) (ite_u (bitsR _ _ _) (ite_u (modR _) ⟨a0, a1⟩))))))))))))))))))
theorem ruV_u {t l a b : Int} (ht : isT t) (hA : okArgs t l a b) : u64R (ruV t l a b) := by
  unfold ruV
  split
  · exact b01 _
  · exact rV_u ht hA
/-- What an operator gives: the number, where there is no trap. -/
def opV (t l a b : Int) : Int := if trT t l (loT t a) (loT t b) = 0 then loT (gvT t l) (ruV t l (loT t a) (loT t b)) else 0
theorem okArgs_of {t l a b : Int} (ht : isT t) (ha : u64R a) (hb : u64R b) (h : trT t l (loT t a) (loT t b) = 0) : okArgs t l (loT t a) (loT t b) := by
  refine ⟨loT_in ht ha, loT_in ht hb, fun h1 h2 h3 => ?_⟩
  rw [trT, if_neg (by omega), if_pos h3] at h
  omega
theorem lowest_q (t v : Int) (w : World) (hv : u64R v) : Calls Tryd.prog 39 #[.int .u8 t, .int .u64 v] w fun e w' => e = .returned (.int .u64 (loT t v)) ∧ w' = w :=
  (lowest_any t v w hv).mono fun _ _ ⟨h1, h2⟩ => ⟨h1, h2.symm⟩
theorem drewN_cell (W : World) (n : Nat) (p : Addr) : (W.drewN n).cell? p = W.cell? p := by simp

theorem ret_2 {a b c d : Int} (h : a = b) (h2 : c = d) : Ending.returned (.tuple #[.int .u64 a, .int .i64 c]) = .returned (.tuple #[.int .u64 b, .int .i64 d]) := by rw [h, h2]
theorem oper1_trap (p2 p3 p4 p5 : Addr) (t l a b : Int) (W : World) (ht : isT t) (ha : u64R a) (hb : u64R b) (c2 : W.cell? p2 = some (.int .u8 t)) (c3 : W.cell? p3 = some (.int .i64 l)) (htr : trT t l (loT t a) (loT t b) ≠ 0) :
    Calls Tryd.prog 41 #[.int .u64 a, .int .u64 b, .pointer (some p2), .pointer (some p3), .pointer (some p4), .pointer (some p5)] W fun e w' => e = .returned (.tuple #[.int .u64 (opV t l a b), .int .i64 (trT t l (loT t a) (loT t b))]) ∧ Still W w' := by
  have HA := Lib.hid ha
  have HB := Lib.hid hb
  have HT := Lib.hid (fun w => trap_any t l (loT t a) (loT t b) w ht (inR_u (loT_in ht hb)))
  have HV : Hid (opV t l a b = 0) := if_neg htr
  have hb0 : (trT t l (loT t a) (loT t b) != 0) = true := by simpa using htr
  clear ha hb ht htr
  go_enter Tryd.func41, Tryd.ntmps41
  go_wp2_with fail
  go_quiet ((go_at_call 39; exact Calls.quiet_of_same (lowest_q _ _ _ (by first | exact HA.out | exact HB.out))))
  go_wp2_with fail
  refine (HT.out _).mono ?_
  rintro e w' ⟨rfl, rfl⟩
  go_wp2_with fail
  go_ret2
  exact ⟨ret_2 HV.out.symm rfl, .of _⟩
theorem oper1_none (p2 p3 p4 p5 : Addr) (t l a b : Int) (W : World) (k : FuncId) (caps : Array Value) (ht : isT t) (ha : u64R a) (hb : u64R b) (c2 : W.cell? p2 = some (.int .u8 t)) (c3 : W.cell? p3 = some (.int .i64 l)) (c4 : W.cell? p4 = some (.int .u8 (gvT t l))) (c5 : W.cell? p5 = some (.func (.func k) #[] caps))
    (hk : Stab.FnOk Tryd.prog k) (hF : ∀ n x y, okArgs t l x y → Calls Tryd.prog k (#[.int .u64 x, .int .u64 y] ++ caps) (W.drewN n) fun e w' => e = .returned (.int .u64 (ruV t l x y)) ∧ Still (W.drewN n) w') (htr : trT t l (loT t a) (loT t b) = 0) :
    Calls Tryd.prog 41 #[.int .u64 a, .int .u64 b, .pointer (some p2), .pointer (some p3), .pointer (some p4), .pointer (some p5)] W fun e w' => e = .returned (.tuple #[.int .u64 (opV t l a b), .int .i64 (trT t l (loT t a) (loT t b))]) ∧ Still W w' := by
  have HA := Lib.hid ha
  have HB := Lib.hid hb
  have HT := Lib.hid (fun w => trap_any t l (loT t a) (loT t b) w ht (inR_u (loT_in ht hb)))
  have hok := okArgs_of ht ha hb htr
  have HU := Lib.hid (ruV_u ht hok)
  have HF := Lib.hid (fun n => hF n _ _ hok)
  have HV : Hid (opV t l a b = loT (gvT t l) (ruV t l (loT t a) (loT t b))) := if_pos htr
  have HZ := Lib.hid htr
  have hb0 : (trT t l (loT t a) (loT t b) != 0) = false := by simp [htr]
  have HK := Lib.hid hk
  clear ha hb ht htr hF hok hk
  go_enter Tryd.func41, Tryd.ntmps41
  go_wp2_with fail
  go_quiet ((go_at_call 39; exact Calls.quiet_of_same (lowest_q _ _ _ (by first | exact HA.out | exact HB.out))))
  go_wp2_with fail
  refine (HT.out _).mono ?_
  rintro e w' ⟨rfl, rfl⟩
  go_wp2_with fail
  have hrun := run_k HK.out
  have HS := Lib.hid (Still.of (W := W) nq)
  have HF1 : Hid (∀ m, Calls Tryd.prog k (#[.int .u64 (loT t a), .int .u64 (loT t b)] ++ caps) ((W.drewN nq).drewN m) fun e w' => e = .returned (.int .u64 (ruV t l (loT t a) (loT t b))) ∧ ∃ j, w' = ((W.drewN nq).drewN m).drewN j) := by
    intro m
    rw [World.drewN_drewN]
    exact HF.out _
  have d4 : (W.drewN nq).cell? p4 = some (.int .u8 (gvT t l)) := by rw [drewN_cell]; exact c4
  have d5 : (W.drewN nq).cell? p5 = some (.func (.func k) #[] caps) := by rw [drewN_cell]; exact c5
  have HN : Hid (∀ w', (∃ j, w' = (W.drewN nq).drewN j) → Still W w') := by
    rintro w' ⟨j, rfl⟩
    exact ⟨nq + j, by rw [World.drewN_drewN]⟩
  clear c2 c3 c4 c5 HF HS
  revert HF1 d4 d5 HN
  generalize W.drewN nq = W1
  intro HF1 d4 d5 HN
  go_quiet ((first | (go_at_call 39; exact Calls.quiet_of_same (lowest_q _ _ _ HU.out)) | exact Calls.quiet_of (HF1.out _)))
  go_wp2_with fail
  go_ret2
  exact ⟨ret_2 HV.out.symm HZ.out.symm, HN.out _ ⟨_, rfl⟩⟩
end Go.Proofs.YtoclfldmkipokaaDoor.Ints
