/- What reckoning makes: closures that answer as their operators should. -/
import Derived.Test.YtoclfldmkipokaaDoorIntsMake
namespace Go.Proofs.YtoclfldmkipokaaDoor.Ints
open Go.RowKit
set_option maxRecDepth 100000
set_option maxHeartbeats 1000000

theorem sgT_ne {t b : Int} (ht : isT t) (h : inR t b) (hz : b ≠ 0) : sgT t b ≠ 0 := by
  rcases ht with rfl | rfl
  · obtain ⟨h0, h1⟩ := inR_32 h
    show sg32 (b % 4294967296) ≠ 0
    unfold sg32; split <;> omega
  · obtain ⟨h0, h1⟩ := inR_64 h
    show sg64 b ≠ 0
    unfold sg64; split <;> omega
theorem ru_up {t l a b : Int} {W : World} (h : 79 < l) : ∀ (e : Ending) (w' : World), (e = .returned (.int .u64 (rV t l a b)) ∧ Still W w') → (e = .returned (.int .u64 (ruV t l a b)) ∧ Still W w') := fun e w' ⟨h1, h2⟩ => ⟨by rw [h1]; exact ret_int (if_neg (by omega)).symm, h2⟩
def wRec (t : Int) (w : World) : World := (w.alloc (.cells #[.int .u8 t] 5)).alloc (.cells #[.int .u64 (wdT t)] 27)
theorem wRec_t (t : Int) (w : World) : (wRec t w).cell? ⟨w.heap.size, 0, none⟩ = some (.int .u8 t) := by simp [wRec, go_sem]
theorem wRec_d (t : Int) (w : World) : (wRec t w).cell? ⟨w.heap.size + 1, 0, none⟩ = some (.int .u64 (wdT t)) := by simp [wRec, go_sem]
theorem wRec_size (t : Int) (w : World) : (wRec t w).heap.size = w.heap.size + 2 := by simp [wRec, go_sem]
theorem wRec_below (t : Int) (w : World) : Below w.heap.size w (wRec t w) := ((Below.refl _ _).alloc (Nat.le_refl _) _).alloc (by simp) _
theorem reck_103 (t : Int) (w : World) (ht : isT t) : Calls Tryd.prog 46 #[.int .u8 t, .int .i64 103] w (Gives (Rule t 103) w) := by
  have HT := Lib.hid ht
  clear ht
  have HG := Lib.hid (show ∀ F, Rule t 103 F (wRec t w) → Gives (Rule t 103) w (.returned F) (wRec t w) from fun F h => ⟨F, rfl, h, wRec_below t w⟩)
  have hmf := mkf
  go_enter Tryd.func46, Tryd.ntmps46
  go_wp2_with (go_at_call 59; refine (width_any _ _ HT.out).mono ?_; rintro e w' ⟨rfl, rfl⟩)
  go_ret
  exact HG.out _ ⟨60, _, [(⟨w.heap.size + 1, 0, none⟩, .int .u64 (wdT t))], rfl, ⟨_, Tryd.func60, by kernel_rfl, by kernel_rfl⟩, .cons (wRec_d t w) .nil, .cons (by rw [wRec_size]; exact Nat.lt_succ_self _) (by simp) (by simp) .nil, fun W a b hC _ hA => (rec_103 _ t a b W HT.out hC.head hA.1).mono (ru_up (by omega))⟩
theorem reck_104 (t : Int) (w : World) (ht : isT t) : Calls Tryd.prog 46 #[.int .u8 t, .int .i64 104] w (Gives (Rule t 104) w) := by
  have HT := Lib.hid ht
  clear ht
  have HG := Lib.hid (show ∀ F, Rule t 104 F (wRec t w) → Gives (Rule t 104) w (.returned F) (wRec t w) from fun F h => ⟨F, rfl, h, wRec_below t w⟩)
  have hmf := mkf
  go_enter Tryd.func46, Tryd.ntmps46
  go_wp2_with (go_at_call 59; refine (width_any _ _ HT.out).mono ?_; rintro e w' ⟨rfl, rfl⟩)
  go_ret
  exact HG.out _ ⟨62, _, [(⟨w.heap.size + 1, 0, none⟩, .int .u64 (wdT t))], rfl, ⟨_, Tryd.func62, by kernel_rfl, by kernel_rfl⟩, .cons (wRec_d t w) .nil, .cons (by rw [wRec_size]; exact Nat.lt_succ_self _) (by simp) (by simp) .nil, fun W a b hC hT hA => (rec_104 _ t a b W HT.out hC.head hA.1 hT).mono (ru_up (by omega))⟩
theorem reck_105 (t : Int) (w : World) (ht : isT t) : Calls Tryd.prog 46 #[.int .u8 t, .int .i64 105] w (Gives (Rule t 105) w) := by
  have HT := Lib.hid ht
  clear ht
  have HG := Lib.hid (show ∀ F, Rule t 105 F (wRec t w) → Gives (Rule t 105) w (.returned F) (wRec t w) from fun F h => ⟨F, rfl, h, wRec_below t w⟩)
  have hmf := mkf
  go_enter Tryd.func46, Tryd.ntmps46
  go_wp2_with (go_at_call 59; refine (width_any _ _ HT.out).mono ?_; rintro e w' ⟨rfl, rfl⟩)
  go_ret
  exact HG.out _ ⟨64, _, [], rfl, ⟨_, Tryd.func64, by kernel_rfl, by kernel_rfl⟩, .nil, .nil, fun W a b _ _ hA => (rec_105 t a b W (inR_u hA.1)).mono (ru_up (by omega))⟩
theorem reck_106 (t : Int) (w : World) (ht : isT t) : Calls Tryd.prog 46 #[.int .u8 t, .int .i64 106] w (Gives (Rule t 106) w) := by
  have HT := Lib.hid ht
  clear ht
  have HG := Lib.hid (show ∀ F, Rule t 106 F (wRec t w) → Gives (Rule t 106) w (.returned F) (wRec t w) from fun F h => ⟨F, rfl, h, wRec_below t w⟩)
  have hmf := mkf
  go_enter Tryd.func46, Tryd.ntmps46
  go_wp2_with (go_at_call 59; refine (width_any _ _ HT.out).mono ?_; rintro e w' ⟨rfl, rfl⟩)
  go_ret
  exact HG.out _ ⟨66, _, [], rfl, ⟨_, Tryd.func66, by kernel_rfl, by kernel_rfl⟩, .nil, .nil, fun W a b _ _ hA => (rec_106 t a b W HT.out hA.1 hA.2.1).mono (ru_up (by omega))⟩
theorem reck_107 (t : Int) (w : World) (ht : isT t) : Calls Tryd.prog 46 #[.int .u8 t, .int .i64 107] w (Gives (Rule t 107) w) := by
  have HT := Lib.hid ht
  clear ht
  have HG := Lib.hid (show ∀ F, Rule t 107 F (wRec t w) → Gives (Rule t 107) w (.returned F) (wRec t w) from fun F h => ⟨F, rfl, h, wRec_below t w⟩)
  have hmf := mkf
  go_enter Tryd.func46, Tryd.ntmps46
  go_wp2_with (go_at_call 59; refine (width_any _ _ HT.out).mono ?_; rintro e w' ⟨rfl, rfl⟩)
  go_ret
  exact HG.out _ ⟨67, _, [], rfl, ⟨_, Tryd.func67, by kernel_rfl, by kernel_rfl⟩, .nil, .nil, fun W a b _ _ hA => (rec_107 t a b W HT.out hA.1 hA.2.1).mono (ru_up (by omega))⟩
theorem reck_108 (t : Int) (w : World) (ht : isT t) : Calls Tryd.prog 46 #[.int .u8 t, .int .i64 108] w (Gives (Rule t 108) w) := by
  have HT := Lib.hid ht
  clear ht
  have HG := Lib.hid (show ∀ F, Rule t 108 F (wRec t w) → Gives (Rule t 108) w (.returned F) (wRec t w) from fun F h => ⟨F, rfl, h, wRec_below t w⟩)
  have hmf := mkf
  go_enter Tryd.func46, Tryd.ntmps46
  go_wp2_with (go_at_call 59; refine (width_any _ _ HT.out).mono ?_; rintro e w' ⟨rfl, rfl⟩)
  go_ret
  exact HG.out _ ⟨68, _, [], rfl, ⟨_, Tryd.func68, by kernel_rfl, by kernel_rfl⟩, .nil, .nil, fun W a b _ _ hA => (rec_108 t a b W HT.out hA.1 hA.2.1).mono (ru_up (by omega))⟩
theorem reck_109 (t : Int) (w : World) (ht : isT t) : Calls Tryd.prog 46 #[.int .u8 t, .int .i64 109] w (Gives (Rule t 109) w) := by
  have HT := Lib.hid ht
  clear ht
  have HG := Lib.hid (show ∀ F, Rule t 109 F (wRec t w) → Gives (Rule t 109) w (.returned F) (wRec t w) from fun F h => ⟨F, rfl, h, wRec_below t w⟩)
  have hmf := mkf
  go_enter Tryd.func46, Tryd.ntmps46
  go_wp2_with (go_at_call 59; refine (width_any _ _ HT.out).mono ?_; rintro e w' ⟨rfl, rfl⟩)
  go_ret
  exact HG.out _ ⟨69, _, [(⟨w.heap.size, 0, none⟩, .int .u8 t)], rfl, ⟨_, Tryd.func69, by kernel_rfl, by kernel_rfl⟩, .cons (wRec_t t w) .nil, .cons (by rw [wRec_size]; exact Nat.lt_add_of_pos_right (by omega)) (by simp) (isT_ne HT.out) .nil, fun W a b hC _ hA => (rec_109 _ t a b W hC.head (inR_u hA.1) (inR_u hA.2.1) (sgT_ne HT.out hA.2.1 (hA.2.2 (by omega) (by omega)))).mono (ru_up (by omega))⟩
theorem reck_110 (t : Int) (w : World) (ht : isT t) : Calls Tryd.prog 46 #[.int .u8 t, .int .i64 110] w (Gives (Rule t 110) w) := by
  have HT := Lib.hid ht
  clear ht
  have HG := Lib.hid (show ∀ F, Rule t 110 F (wRec t w) → Gives (Rule t 110) w (.returned F) (wRec t w) from fun F h => ⟨F, rfl, h, wRec_below t w⟩)
  have hmf := mkf
  go_enter Tryd.func46, Tryd.ntmps46
  go_wp2_with (go_at_call 59; refine (width_any _ _ HT.out).mono ?_; rintro e w' ⟨rfl, rfl⟩)
  go_ret
  exact HG.out _ ⟨70, _, [], rfl, ⟨_, Tryd.func70, by kernel_rfl, by kernel_rfl⟩, .nil, .nil, fun W a b _ _ hA => (rec_110 t a b W HT.out hA.1 hA.2.1 (hA.2.2 (by omega) (by omega))).mono (ru_up (by omega))⟩
theorem reck_111 (t : Int) (w : World) (ht : isT t) : Calls Tryd.prog 46 #[.int .u8 t, .int .i64 111] w (Gives (Rule t 111) w) := by
  have HT := Lib.hid ht
  clear ht
  have HG := Lib.hid (show ∀ F, Rule t 111 F (wRec t w) → Gives (Rule t 111) w (.returned F) (wRec t w) from fun F h => ⟨F, rfl, h, wRec_below t w⟩)
  have hmf := mkf
  go_enter Tryd.func46, Tryd.ntmps46
  go_wp2_with (go_at_call 59; refine (width_any _ _ HT.out).mono ?_; rintro e w' ⟨rfl, rfl⟩)
  go_ret
  exact HG.out _ ⟨71, _, [(⟨w.heap.size, 0, none⟩, .int .u8 t)], rfl, ⟨_, Tryd.func71, by kernel_rfl, by kernel_rfl⟩, .cons (wRec_t t w) .nil, .cons (by rw [wRec_size]; exact Nat.lt_add_of_pos_right (by omega)) (by simp) (isT_ne HT.out) .nil, fun W a b hC _ hA => (rec_111 _ t a b W hC.head (inR_u hA.1) (inR_u hA.2.1) (sgT_ne HT.out hA.2.1 (hA.2.2 (by omega) (by omega)))).mono (ru_up (by omega))⟩
theorem reck_112 (t : Int) (w : World) (ht : isT t) : Calls Tryd.prog 46 #[.int .u8 t, .int .i64 112] w (Gives (Rule t 112) w) := by
  have HT := Lib.hid ht
  clear ht
  have HG := Lib.hid (show ∀ F, Rule t 112 F (wRec t w) → Gives (Rule t 112) w (.returned F) (wRec t w) from fun F h => ⟨F, rfl, h, wRec_below t w⟩)
  have hmf := mkf
  go_enter Tryd.func46, Tryd.ntmps46
  go_wp2_with (go_at_call 59; refine (width_any _ _ HT.out).mono ?_; rintro e w' ⟨rfl, rfl⟩)
  go_ret
  exact HG.out _ ⟨72, _, [], rfl, ⟨_, Tryd.func72, by kernel_rfl, by kernel_rfl⟩, .nil, .nil, fun W a b _ _ hA => (rec_112 t a b W HT.out hA.1 hA.2.1 (hA.2.2 (by omega) (by omega))).mono (ru_up (by omega))⟩
theorem reck_113 (t : Int) (w : World) (ht : isT t) : Calls Tryd.prog 46 #[.int .u8 t, .int .i64 113] w (Gives (Rule t 113) w) := by
  have HT := Lib.hid ht
  clear ht
  have HG := Lib.hid (show ∀ F, Rule t 113 F (wRec t w) → Gives (Rule t 113) w (.returned F) (wRec t w) from fun F h => ⟨F, rfl, h, wRec_below t w⟩)
  have hmf := mkf
  go_enter Tryd.func46, Tryd.ntmps46
  go_wp2_with (go_at_call 59; refine (width_any _ _ HT.out).mono ?_; rintro e w' ⟨rfl, rfl⟩)
  go_ret
  exact HG.out _ ⟨73, _, [], rfl, ⟨_, Tryd.func73, by kernel_rfl, by kernel_rfl⟩, .nil, .nil, fun W a b _ _ hA => (rec_113 t a b W HT.out hA.1 hA.2.1).mono (ru_up (by omega))⟩
theorem reck_114 (t : Int) (w : World) (ht : isT t) : Calls Tryd.prog 46 #[.int .u8 t, .int .i64 114] w (Gives (Rule t 114) w) := by
  have HT := Lib.hid ht
  clear ht
  have HG := Lib.hid (show ∀ F, Rule t 114 F (wRec t w) → Gives (Rule t 114) w (.returned F) (wRec t w) from fun F h => ⟨F, rfl, h, wRec_below t w⟩)
  have hmf := mkf
  go_enter Tryd.func46, Tryd.ntmps46
  go_wp2_with (go_at_call 59; refine (width_any _ _ HT.out).mono ?_; rintro e w' ⟨rfl, rfl⟩)
  go_ret
  exact HG.out _ ⟨74, _, [], rfl, ⟨_, Tryd.func74, by kernel_rfl, by kernel_rfl⟩, .nil, .nil, fun W a b _ _ hA => (rec_114 t a b W HT.out hA.1 hA.2.1).mono (ru_up (by omega))⟩
theorem reck_115 (t : Int) (w : World) (ht : isT t) : Calls Tryd.prog 46 #[.int .u8 t, .int .i64 115] w (Gives (Rule t 115) w) := by
  have HT := Lib.hid ht
  clear ht
  have HG := Lib.hid (show ∀ F, Rule t 115 F (wRec t w) → Gives (Rule t 115) w (.returned F) (wRec t w) from fun F h => ⟨F, rfl, h, wRec_below t w⟩)
  have hmf := mkf
  go_enter Tryd.func46, Tryd.ntmps46
  go_wp2_with (go_at_call 59; refine (width_any _ _ HT.out).mono ?_; rintro e w' ⟨rfl, rfl⟩)
  go_ret
  exact HG.out _ ⟨75, _, [], rfl, ⟨_, Tryd.func75, by kernel_rfl, by kernel_rfl⟩, .nil, .nil, fun W a b _ _ hA => (rec_115 t a b W HT.out hA.1 hA.2.1).mono (ru_up (by omega))⟩
theorem reck_116 (t : Int) (w : World) (ht : isT t) : Calls Tryd.prog 46 #[.int .u8 t, .int .i64 116] w (Gives (Rule t 116) w) := by
  have HT := Lib.hid ht
  clear ht
  have HG := Lib.hid (show ∀ F, Rule t 116 F (wRec t w) → Gives (Rule t 116) w (.returned F) (wRec t w) from fun F h => ⟨F, rfl, h, wRec_below t w⟩)
  have hmf := mkf
  go_enter Tryd.func46, Tryd.ntmps46
  go_wp2_with (go_at_call 59; refine (width_any _ _ HT.out).mono ?_; rintro e w' ⟨rfl, rfl⟩)
  go_ret
  exact HG.out _ ⟨76, _, [(⟨w.heap.size + 1, 0, none⟩, .int .u64 (wdT t))], rfl, ⟨_, Tryd.func76, by kernel_rfl, by kernel_rfl⟩, .cons (wRec_d t w) .nil, .cons (by rw [wRec_size]; exact Nat.lt_succ_self _) (by simp) (by simp) .nil, fun W a b hC _ hA => (rec_116 _ t a b W HT.out hC.head hA.1 hA.2.1).mono (ru_up (by omega))⟩
theorem reck_117 (t : Int) (w : World) (ht : isT t) : Calls Tryd.prog 46 #[.int .u8 t, .int .i64 117] w (Gives (Rule t 117) w) := by
  have HT := Lib.hid ht
  clear ht
  have HG := Lib.hid (show ∀ F, Rule t 117 F (wRec t w) → Gives (Rule t 117) w (.returned F) (wRec t w) from fun F h => ⟨F, rfl, h, wRec_below t w⟩)
  have hmf := mkf
  go_enter Tryd.func46, Tryd.ntmps46
  go_wp2_with (go_at_call 59; refine (width_any _ _ HT.out).mono ?_; rintro e w' ⟨rfl, rfl⟩)
  go_ret
  exact HG.out _ ⟨77, _, [(⟨w.heap.size, 0, none⟩, .int .u8 t), (⟨w.heap.size + 1, 0, none⟩, .int .u64 (wdT t))], rfl, ⟨_, Tryd.func77, by kernel_rfl, by kernel_rfl⟩, .cons (wRec_t t w) (.cons (wRec_d t w) .nil), .cons (by rw [wRec_size]; exact Nat.lt_add_of_pos_right (by omega)) (by simp) (isT_ne HT.out) (.cons (by rw [wRec_size]; exact Nat.lt_succ_self _) (by simp) (by simp) .nil), fun W a b hC _ hA => (rec_117 _ _ t a b W HT.out hC.head hC.tail.head hA.1 hA.2.1).mono (ru_up (by omega))⟩
theorem reck_118 (t : Int) (w : World) (ht : isT t) : Calls Tryd.prog 46 #[.int .u8 t, .int .i64 118] w (Gives (Rule t 118) w) := by
  have HT := Lib.hid ht
  clear ht
  have HG := Lib.hid (show ∀ F, Rule t 118 F (wRec t w) → Gives (Rule t 118) w (.returned F) (wRec t w) from fun F h => ⟨F, rfl, h, wRec_below t w⟩)
  have hmf := mkf
  go_enter Tryd.func46, Tryd.ntmps46
  go_wp2_with (go_at_call 59; refine (width_any _ _ HT.out).mono ?_; rintro e w' ⟨rfl, rfl⟩)
  go_ret
  exact HG.out _ ⟨78, _, [(⟨w.heap.size + 1, 0, none⟩, .int .u64 (wdT t))], rfl, ⟨_, Tryd.func78, by kernel_rfl, by kernel_rfl⟩, .cons (wRec_d t w) .nil, .cons (by rw [wRec_size]; exact Nat.lt_succ_self _) (by simp) (by simp) .nil, fun W a b hC _ hA => (rec_118 _ t a b W HT.out hC.head hA.1 hA.2.1).mono (ru_up (by omega))⟩
theorem reck_119 (t : Int) (w : World) (ht : isT t) : Calls Tryd.prog 46 #[.int .u8 t, .int .i64 119] w (Gives (Rule t 119) w) := by
  have HT := Lib.hid ht
  clear ht
  have HG := Lib.hid (show ∀ F, Rule t 119 F (wRec t w) → Gives (Rule t 119) w (.returned F) (wRec t w) from fun F h => ⟨F, rfl, h, wRec_below t w⟩)
  have hmf := mkf
  go_enter Tryd.func46, Tryd.ntmps46
  go_wp2_with (go_at_call 59; refine (width_any _ _ HT.out).mono ?_; rintro e w' ⟨rfl, rfl⟩)
  go_ret
  exact HG.out _ ⟨79, _, [(⟨w.heap.size + 1, 0, none⟩, .int .u64 (wdT t))], rfl, ⟨_, Tryd.func79, by kernel_rfl, by kernel_rfl⟩, .cons (wRec_d t w) .nil, .cons (by rw [wRec_size]; exact Nat.lt_succ_self _) (by simp) (by simp) .nil, fun W a b hC _ hA => (rec_119 _ t a b W HT.out hC.head hA.1 hA.2.1).mono (ru_up (by omega))⟩
theorem reck_120 (t : Int) (w : World) (ht : isT t) : Calls Tryd.prog 46 #[.int .u8 t, .int .i64 120] w (Gives (Rule t 120) w) := by
  have HT := Lib.hid ht
  clear ht
  have HG := Lib.hid (show ∀ F, Rule t 120 F (wRec t w) → Gives (Rule t 120) w (.returned F) (wRec t w) from fun F h => ⟨F, rfl, h, wRec_below t w⟩)
  have hmf := mkf
  go_enter Tryd.func46, Tryd.ntmps46
  go_wp2_with (go_at_call 59; refine (width_any _ _ HT.out).mono ?_; rintro e w' ⟨rfl, rfl⟩)
  go_ret
  exact HG.out _ ⟨80, _, [(⟨w.heap.size + 1, 0, none⟩, .int .u64 (wdT t))], rfl, ⟨_, Tryd.func80, by kernel_rfl, by kernel_rfl⟩, .cons (wRec_d t w) .nil, .cons (by rw [wRec_size]; exact Nat.lt_succ_self _) (by simp) (by simp) .nil, fun W a b hC _ hA => (rec_120 _ t a b W HT.out hC.head hA.1 hA.2.1).mono (ru_up (by omega))⟩
theorem reck_172 (t : Int) (w : World) (ht : isT t) : Calls Tryd.prog 46 #[.int .u8 t, .int .i64 172] w (Gives (Rule t 172) w) := by
  have HT := Lib.hid ht
  clear ht
  have HG := Lib.hid (show ∀ F, Rule t 172 F (wRec t w) → Gives (Rule t 172) w (.returned F) (wRec t w) from fun F h => ⟨F, rfl, h, wRec_below t w⟩)
  have hmf := mkf
  go_enter Tryd.func46, Tryd.ntmps46
  go_wp2_with (go_at_call 59; refine (width_any _ _ HT.out).mono ?_; rintro e w' ⟨rfl, rfl⟩)
  go_ret
  exact HG.out _ ⟨81, _, [(⟨w.heap.size, 0, none⟩, .int .u8 t)], rfl, ⟨_, Tryd.func81, by kernel_rfl, by kernel_rfl⟩, .cons (wRec_t t w) .nil, .cons (by rw [wRec_size]; exact Nat.lt_add_of_pos_right (by omega)) (by simp) (isT_ne HT.out) .nil, fun W a b hC _ hA => (rec_172 _ t a b W HT.out hC.head hA.1 hA.2.1).mono (ru_up (by omega))⟩
theorem reck_167 (t : Int) (w : World) (ht : isT t) : Calls Tryd.prog 46 #[.int .u8 t, .int .i64 167] w (Gives (Rule t 167) w) := by
  have HT := Lib.hid ht
  clear ht
  have HG := Lib.hid (show ∀ F, Rule t 167 F (wRec t w) → Gives (Rule t 167) w (.returned F) (wRec t w) from fun F h => ⟨F, rfl, h, wRec_below t w⟩)
  have hmf := mkf
  go_enter Tryd.func46, Tryd.ntmps46
  go_wp2_with (go_at_call 59; refine (width_any _ _ HT.out).mono ?_; rintro e w' ⟨rfl, rfl⟩)
  go_ret
  exact HG.out _ ⟨82, _, [], rfl, ⟨_, Tryd.func82, by kernel_rfl, by kernel_rfl⟩, .nil, .nil, fun W a b _ _ _ => (rec_last t 167 a b W (.inl rfl)).mono (ru_up (by omega))⟩
theorem reck_173 (t : Int) (w : World) (ht : isT t) : Calls Tryd.prog 46 #[.int .u8 t, .int .i64 173] w (Gives (Rule t 173) w) := by
  have HT := Lib.hid ht
  clear ht
  have HG := Lib.hid (show ∀ F, Rule t 173 F (wRec t w) → Gives (Rule t 173) w (.returned F) (wRec t w) from fun F h => ⟨F, rfl, h, wRec_below t w⟩)
  have hmf := mkf
  go_enter Tryd.func46, Tryd.ntmps46
  go_wp2_with (go_at_call 59; refine (width_any _ _ HT.out).mono ?_; rintro e w' ⟨rfl, rfl⟩)
  go_ret
  exact HG.out _ ⟨82, _, [], rfl, ⟨_, Tryd.func82, by kernel_rfl, by kernel_rfl⟩, .nil, .nil, fun W a b _ _ _ => (rec_last t 173 a b W (.inr rfl)).mono (ru_up (by omega))⟩
end Go.Proofs.YtoclfldmkipokaaDoor.Ints
