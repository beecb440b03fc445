/- What ruleOf makes, and its own closure, walked. -/
import Derived.Test.YtoclfldmkipokaaDoorIntsReck
namespace Go.Proofs.YtoclfldmkipokaaDoor.Ints
open Go.RowKit
set_option maxRecDepth 100000
set_option maxHeartbeats 400000

theorem comparison_any (t l : Int) (w : World) (ht : isT t) (h1 : 69 ≤ l) (h2 : l ≤ 79) : Calls Tryd.prog 44 #[.int .u8 t, .int .i64 l] w (Gives (CRule t l) w) := by
  have hc : l = 69 ∨ l = 70 ∨ l = 71 ∨ l = 72 ∨ l = 73 ∨ l = 74 ∨ l = 75 ∨ l = 76 ∨ l = 77 ∨ l = 78 ∨ l = 79 := by omega
  rcases hc with rfl | rfl | rfl | rfl | rfl | rfl | rfl | rfl | rfl | rfl | rfl
  · exact cmpn_69 t w ht
  · exact cmpn_70 t w ht
  · exact cmpn_71 t w ht
  · exact cmpn_72 t w ht
  · exact cmpn_73 t w ht
  · exact cmpn_74 t w ht
  · exact cmpn_75 t w ht
  · exact cmpn_76 t w ht
  · exact cmpn_77 t w ht
  · exact cmpn_78 t w ht
  · exact cmpn_79 t w ht
/-- The likenesses of operators that reckon. -/
def isR (l : Int) : Prop := 103 ≤ l ∧ l ≤ 120 ∨ l = 172 ∨ l = 167 ∨ l = 173
theorem reckoning_any (t l : Int) (w : World) (ht : isT t) (hl : isR l) : Calls Tryd.prog 46 #[.int .u8 t, .int .i64 l] w (Gives (Rule t l) w) := by
  have hc : l = 103 ∨ l = 104 ∨ l = 105 ∨ l = 106 ∨ l = 107 ∨ l = 108 ∨ l = 109 ∨ l = 110 ∨ l = 111 ∨ l = 112 ∨ l = 113 ∨ l = 114 ∨ l = 115 ∨ l = 116 ∨ l = 117 ∨ l = 118 ∨ l = 119 ∨ l = 120 ∨ l = 172 ∨ l = 167 ∨ l = 173 := by unfold isR at hl; omega
  rcases hc with rfl | rfl | rfl | rfl | rfl | rfl | rfl | rfl | rfl | rfl | rfl | rfl | rfl | rfl | rfl | rfl | rfl | rfl | rfl | rfl | rfl
  · exact reck_103 t w ht
  · exact reck_104 t w ht
  · exact reck_105 t w ht
  · exact reck_106 t w ht
  · exact reck_107 t w ht
  · exact reck_108 t w ht
  · exact reck_109 t w ht
  · exact reck_110 t w ht
  · exact reck_111 t w ht
  · exact reck_112 t w ht
  · exact reck_113 t w ht
  · exact reck_114 t w ht
  · exact reck_115 t w ht
  · exact reck_116 t w ht
  · exact reck_117 t w ht
  · exact reck_118 t w ht
  · exact reck_119 t w ht
  · exact reck_120 t w ht
  · exact reck_172 t w ht
  · exact reck_167 t w ht
  · exact reck_173 t w ht

theorem run_k {k : FuncId} (h : Stab.FnOk Tryd.prog k) (args : Array Value) (w : World) : (callFunc k args).run Tryd.prog w = .ok (.enter k args) w := by
  obtain ⟨fn, h1, h2, h3⟩ := h
  exact Stab.run_enter h1 h2 h3 args w
theorem rule1_at (p : Addr) (a b : Int) (B : Bool) (W : World) (k : FuncId) (caps : Array Value) (hc : W.cell? p = some (.func (.func k) #[] caps)) (hk : Stab.FnOk Tryd.prog k)
    (hC : Calls Tryd.prog k (#[.int .u64 a, .int .u64 b] ++ caps) W fun e w' => e = .returned (.bool B) ∧ Still W w') :
    Calls Tryd.prog 45 #[.int .u64 a, .int .u64 b, .pointer (some p)] W fun e w' => e = .returned (.int .u64 (if B then 1 else 0)) ∧ Still W w' := by
  have hrun := run_k hk
  have HC := Lib.hid hC
  clear hC hk
  cases B
  · go_enter Tryd.func45, Tryd.ntmps45
    go_wp2_with fail
    refine HC.out.mono ?_
    rintro e w' ⟨rfl, hs⟩
    go_wp2_with fail
    go_ret
    exact ⟨rfl, hs⟩
  · go_enter Tryd.func45, Tryd.ntmps45
    go_wp2_with fail
    refine HC.out.mono ?_
    rintro e w' ⟨rfl, hs⟩
    go_wp2_with fail
    go_ret
    exact ⟨rfl, hs⟩
theorem rule_of_cmp {t l : Int} (hl : l ≤ 79) {H : Value} {w1 : World} (h : CRule t l H w1) : Rule t l (.func (.func 45) #[] #[.pointer (some ⟨w1.heap.size, 0, none⟩)]) (w1.alloc (.cells #[H] 65)) := by
  obtain ⟨k, caps, cs, rfl, h2, h3, h4, h5⟩ := h
  have hb := below_box w1 (.cells #[.func (.func k) #[] caps] 65)
  refine ⟨45, _, (⟨w1.heap.size, 0, none⟩, .func (.func k) #[] caps) :: cs, rfl, ⟨_, Tryd.func45, by kernel_rfl, by kernel_rfl⟩, .cons (by simp [go_sem]) (h3.stays h4 hb), .cons (by simp) (by simp) (by simp) (h4.stays hb), fun W a b hC _ hA => ?_⟩
  refine (rule1_at _ a b _ W k caps hC.head h2 (h5 W a b hC.tail hA.1 hA.2.1)).mono ?_
  rintro e w' ⟨rfl, hs⟩
  exact ⟨ret_int (if_pos hl).symm, hs⟩
theorem run_stf (fn : Fn) (first caps : Array Value) (a : Addr) (w : World) : (store a (.func fn first caps) .plain).run Tryd.prog w = stored Tryd.prog w a (.func fn first caps) .plain := run_store _ _ _ _ _ rfl
theorem ruleOf_cmp (t l : Int) (w : World) (ht : isT t) (h1 : 69 ≤ l) (h2 : l ≤ 79) : Calls Tryd.prog 40 #[.int .u8 t, .int .i64 l] w (Gives (Rule t l) w) := by
  have HC := Lib.hid (fun W => comparison_any t l W ht h1 h2)
  clear ht
  have hmf := mkf
  have hst := run_stf
  go_enter Tryd.func40, Tryd.ntmps40
  go_wp2_with fail
  refine (HC.out _).mono ?_
  rintro e w1 ⟨H, rfl, hH, hb⟩
  have HH := Lib.hid hH
  obtain ⟨k, caps, cs, rfl, _⟩ := hH
  go_wp2_with fail
  go_ret
  exact ⟨_, rfl, rule_of_cmp h2 HH.out, hb.trans ((below_box w1 _).mono hb.size)⟩
theorem ruleOf_rec (t l : Int) (w : World) (ht : isT t) (h1 : 79 < l) (hl : isR l) : Calls Tryd.prog 40 #[.int .u8 t, .int .i64 l] w (Gives (Rule t l) w) := by
  have HC := Lib.hid (fun W => reckoning_any t l W ht hl)
  clear ht hl
  go_enter Tryd.func40, Tryd.ntmps40
  go_wp2_with fail
  refine (HC.out _).mono ?_
  rintro e w1 ⟨H, rfl, hH, hb⟩
  go_wp2_with fail
  go_ret
  exact ⟨_, rfl, hH, hb⟩
/-- The likenesses of operators. -/
def isL (l : Int) : Prop := 69 ≤ l ∧ l ≤ 79 ∨ isR l
theorem ruleOf_any (t l : Int) (w : World) (ht : isT t) (hl : isL l) : Calls Tryd.prog 40 #[.int .u8 t, .int .i64 l] w (Gives (Rule t l) w) := by
  rcases hl with ⟨h1, h2⟩ | h
  · exact ruleOf_cmp t l w ht h1 h2
  · exact ruleOf_rec t l w ht (by unfold isR at h; omega) h
end Go.Proofs.YtoclfldmkipokaaDoor.Ints
