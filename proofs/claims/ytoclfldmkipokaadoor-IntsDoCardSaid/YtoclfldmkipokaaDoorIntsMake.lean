/- What comparison, reckoning and ruleOf make: closures that answer as their operators should, whatever comes later. -/
import Derived.Test.YtoclfldmkipokaaDoorIntsRule2
import Derived.Test.YtoclfldmkipokaaDoorIntsRule3
import Derived.Test.YtoclfldmkipokaaDoorIntsPop
import Derived.Test.YtoclfldmkipokaaDoorStabT
namespace Go.Proofs.YtoclfldmkipokaaDoor.Ints
open Go.RowKit
set_option maxRecDepth 100000
set_option maxHeartbeats 1000000

/-- Cells that hold what they should. -/
def Cells (cs : List (Addr × Value)) (w : World) : Prop := ∀ pv ∈ cs, w.cell? pv.1 = some pv.2
/-- Cells of the call's own, none of which looks like a new variable. -/
def Old (cs : List (Addr × Value)) (w : World) : Prop := ∀ pv ∈ cs, pv.1.block < w.heap.size ∧ pv.2 ≠ .nilFunc ∧ pv.2 ≠ .int .u8 0
def okArgs (t l a b : Int) : Prop := inR t a ∧ inR t b ∧ (109 ≤ l → l ≤ 112 → b ≠ 0)
/-- What a rule answers. -/
def ruV (t l a b : Int) : Int := if l ≤ 79 then (if cV t l a b then 1 else 0) else rV t l a b
/-- A comparison's closure; a rule's. -/
def CRule (t l : Int) (F : Value) (w : World) : Prop := ∃ k caps cs, F = .func (.func k) #[] caps ∧ Stab.FnOk Tryd.prog k ∧ Cells cs w ∧ Old cs w ∧
  ∀ W a b, Cells cs W → inR t a → inR t b → Calls Tryd.prog k (#[.int .u64 a, .int .u64 b] ++ caps) W fun e w' => e = .returned (.bool (cV t l a b)) ∧ Still W w'
def Rule (t l : Int) (F : Value) (w : World) : Prop := ∃ k caps cs, F = .func (.func k) #[] caps ∧ Stab.FnOk Tryd.prog k ∧ Cells cs w ∧ Old cs w ∧
  ∀ W a b, Cells cs W → Tab W → okArgs t l a b → Calls Tryd.prog k (#[.int .u64 a, .int .u64 b] ++ caps) W fun e w' => e = .returned (.int .u64 (ruV t l a b)) ∧ Still W w'
def Gives (R : Value → World → Prop) (w : World) (e : Ending) (w' : World) : Prop := ∃ F, e = .returned F ∧ R F w' ∧ Below w.heap.size w w'
theorem Cells.nil {w : World} : Cells [] w := fun _ h => by cases h
theorem Old.nil {w : World} : Old [] w := fun _ h => by cases h
theorem Cells.cons {w : World} {p : Addr} {v : Value} {cs : List (Addr × Value)} (h : w.cell? p = some v) (hs : Cells cs w) : Cells ((p, v) :: cs) w := fun pv hp => by
  rcases List.mem_cons.1 hp with rfl | hp
  · exact h
  · exact hs pv hp
theorem Old.cons {w : World} {p : Addr} {v : Value} {cs : List (Addr × Value)} (h : p.block < w.heap.size) (h1 : v ≠ .nilFunc) (h2 : v ≠ .int .u8 0) (hs : Old cs w) : Old ((p, v) :: cs) w := fun pv hp => by
  rcases List.mem_cons.1 hp with rfl | hp
  · exact ⟨h, h1, h2⟩
  · exact hs pv hp
theorem Cells.head {w : World} {p : Addr} {v : Value} {cs : List (Addr × Value)} (h : Cells ((p, v) :: cs) w) : w.cell? p = some v := h (p, v) (by simp)
theorem Cells.tail {w : World} {x : Addr × Value} {cs : List (Addr × Value)} (h : Cells (x :: cs) w) : Cells cs w := fun pv hp => h pv (by simp [hp])
theorem Cells.stays {w w' : World} {cs : List (Addr × Value)} (h : Cells cs w) (ho : Old cs w) (hb : Below w.heap.size w w') : Cells cs w' := fun pv hp => by rw [hb.cell (ho pv hp).1]; exact h pv hp
theorem Old.stays {w w' : World} {cs : List (Addr × Value)} (ho : Old cs w) (hb : Below w.heap.size w w') : Old cs w' := fun pv hp => ⟨Nat.lt_of_lt_of_le (ho pv hp).1 hb.size, (ho pv hp).2⟩
theorem CRule.stays {t l : Int} : Stab.Stays (CRule t l) := fun _ _ _ ⟨k, caps, cs, h1, h2, h3, h4, h5⟩ hb => ⟨k, caps, cs, h1, h2, h3.stays h4 hb, h4.stays hb, h5⟩
theorem Rule.stays {t l : Int} : Stab.Stays (Rule t l) := fun _ _ _ ⟨k, caps, cs, h1, h2, h3, h4, h5⟩ hb => ⟨k, caps, cs, h1, h2, h3.stays h4 hb, h4.stays hb, h5⟩
theorem isT_ne {t : Int} (h : isT t) : Value.int .u8 t ≠ .int .u8 0 := by rcases h with rfl | rfl <;> simp
theorem mkf (fn : Fn) (first cap : Array Value) (w : World) : (Instr.makeFunc fn first cap).run Tryd.prog w = .ok (.func fn first cap) w := rfl
theorem below_box (w : World) (o : Obj) : Below w.heap.size w (w.alloc o) := (Below.refl _ _).alloc (Nat.le_refl _) _

theorem cmpn_69 (t : Int) (w : World) (ht : isT t) : Calls Tryd.prog 44 #[.int .u8 t, .int .i64 69] w (Gives (CRule t 69) w) := by
  have HT := Lib.hid ht
  clear ht
  have hmf := mkf
  go_enter Tryd.func44, Tryd.ntmps44
  go_wp2
  go_ret
  exact ⟨_, rfl, ⟨48, #[], [], rfl, ⟨_, Tryd.func48, by kernel_rfl, by kernel_rfl⟩, .nil, .nil, fun W a b _ ha hb => cmp_69 t a b W (inR_u ha) (inR_u hb)⟩, below_box w _⟩
theorem cmpn_70 (t : Int) (w : World) (ht : isT t) : Calls Tryd.prog 44 #[.int .u8 t, .int .i64 70] w (Gives (CRule t 70) w) := by
  have HT := Lib.hid ht
  clear ht
  have hmf := mkf
  go_enter Tryd.func44, Tryd.ntmps44
  go_wp2
  go_ret
  exact ⟨_, rfl, ⟨49, #[], [], rfl, ⟨_, Tryd.func49, by kernel_rfl, by kernel_rfl⟩, .nil, .nil, fun W a b _ ha hb => cmp_70 t a b W (inR_u ha) (inR_u hb)⟩, below_box w _⟩
theorem cmpn_71 (t : Int) (w : World) (ht : isT t) : Calls Tryd.prog 44 #[.int .u8 t, .int .i64 71] w (Gives (CRule t 71) w) := by
  have HT := Lib.hid ht
  clear ht
  have hmf := mkf
  go_enter Tryd.func44, Tryd.ntmps44
  go_wp2
  go_ret
  exact ⟨_, rfl, ⟨50, #[], [], rfl, ⟨_, Tryd.func50, by kernel_rfl, by kernel_rfl⟩, .nil, .nil, fun W a b _ ha hb => cmp_71 t a b W (inR_u ha) (inR_u hb)⟩, below_box w _⟩
theorem cmpn_72 (t : Int) (w : World) (ht : isT t) : Calls Tryd.prog 44 #[.int .u8 t, .int .i64 72] w (Gives (CRule t 72) w) := by
  have HT := Lib.hid ht
  clear ht
  have hmf := mkf
  go_enter Tryd.func44, Tryd.ntmps44
  go_wp2
  go_ret
  have hc : (w.alloc (.cells #[.int .u8 t] 5)).cell? ⟨w.heap.size, 0, none⟩ = some (.int .u8 t) := by simp [go_sem]
  exact ⟨_, rfl, ⟨51, _, [(⟨w.heap.size, 0, none⟩, .int .u8 t)], rfl, ⟨_, Tryd.func51, by kernel_rfl, by kernel_rfl⟩, .cons hc .nil, .cons (by simp) (by simp) (isT_ne HT.out) .nil,
    fun W a b hC ha hb => cmp_72 _ t a b W hC.head (inR_u ha) (inR_u hb)⟩, below_box w _⟩
theorem cmpn_73 (t : Int) (w : World) (ht : isT t) : Calls Tryd.prog 44 #[.int .u8 t, .int .i64 73] w (Gives (CRule t 73) w) := by
  have HT := Lib.hid ht
  clear ht
  have hmf := mkf
  go_enter Tryd.func44, Tryd.ntmps44
  go_wp2
  go_ret
  exact ⟨_, rfl, ⟨52, #[], [], rfl, ⟨_, Tryd.func52, by kernel_rfl, by kernel_rfl⟩, .nil, .nil, fun W a b _ ha hb => cmp_73 t a b W (inR_u ha) (inR_u hb)⟩, below_box w _⟩
theorem cmpn_74 (t : Int) (w : World) (ht : isT t) : Calls Tryd.prog 44 #[.int .u8 t, .int .i64 74] w (Gives (CRule t 74) w) := by
  have HT := Lib.hid ht
  clear ht
  have hmf := mkf
  go_enter Tryd.func44, Tryd.ntmps44
  go_wp2
  go_ret
  have hc : (w.alloc (.cells #[.int .u8 t] 5)).cell? ⟨w.heap.size, 0, none⟩ = some (.int .u8 t) := by simp [go_sem]
  exact ⟨_, rfl, ⟨53, _, [(⟨w.heap.size, 0, none⟩, .int .u8 t)], rfl, ⟨_, Tryd.func53, by kernel_rfl, by kernel_rfl⟩, .cons hc .nil, .cons (by simp) (by simp) (isT_ne HT.out) .nil,
    fun W a b hC ha hb => cmp_74 _ t a b W hC.head (inR_u ha) (inR_u hb)⟩, below_box w _⟩
theorem cmpn_75 (t : Int) (w : World) (ht : isT t) : Calls Tryd.prog 44 #[.int .u8 t, .int .i64 75] w (Gives (CRule t 75) w) := by
  have HT := Lib.hid ht
  clear ht
  have hmf := mkf
  go_enter Tryd.func44, Tryd.ntmps44
  go_wp2
  go_ret
  exact ⟨_, rfl, ⟨54, #[], [], rfl, ⟨_, Tryd.func54, by kernel_rfl, by kernel_rfl⟩, .nil, .nil, fun W a b _ ha hb => cmp_75 t a b W (inR_u ha) (inR_u hb)⟩, below_box w _⟩
theorem cmpn_76 (t : Int) (w : World) (ht : isT t) : Calls Tryd.prog 44 #[.int .u8 t, .int .i64 76] w (Gives (CRule t 76) w) := by
  have HT := Lib.hid ht
  clear ht
  have hmf := mkf
  go_enter Tryd.func44, Tryd.ntmps44
  go_wp2
  go_ret
  have hc : (w.alloc (.cells #[.int .u8 t] 5)).cell? ⟨w.heap.size, 0, none⟩ = some (.int .u8 t) := by simp [go_sem]
  exact ⟨_, rfl, ⟨55, _, [(⟨w.heap.size, 0, none⟩, .int .u8 t)], rfl, ⟨_, Tryd.func55, by kernel_rfl, by kernel_rfl⟩, .cons hc .nil, .cons (by simp) (by simp) (isT_ne HT.out) .nil,
    fun W a b hC ha hb => cmp_76 _ t a b W hC.head (inR_u ha) (inR_u hb)⟩, below_box w _⟩
theorem cmpn_77 (t : Int) (w : World) (ht : isT t) : Calls Tryd.prog 44 #[.int .u8 t, .int .i64 77] w (Gives (CRule t 77) w) := by
  have HT := Lib.hid ht
  clear ht
  have hmf := mkf
  go_enter Tryd.func44, Tryd.ntmps44
  go_wp2
  go_ret
  exact ⟨_, rfl, ⟨56, #[], [], rfl, ⟨_, Tryd.func56, by kernel_rfl, by kernel_rfl⟩, .nil, .nil, fun W a b _ ha hb => cmp_77 t a b W (inR_u ha) (inR_u hb)⟩, below_box w _⟩
theorem cmpn_78 (t : Int) (w : World) (ht : isT t) : Calls Tryd.prog 44 #[.int .u8 t, .int .i64 78] w (Gives (CRule t 78) w) := by
  have HT := Lib.hid ht
  clear ht
  have hmf := mkf
  go_enter Tryd.func44, Tryd.ntmps44
  go_wp2
  go_ret
  have hc : (w.alloc (.cells #[.int .u8 t] 5)).cell? ⟨w.heap.size, 0, none⟩ = some (.int .u8 t) := by simp [go_sem]
  exact ⟨_, rfl, ⟨57, _, [(⟨w.heap.size, 0, none⟩, .int .u8 t)], rfl, ⟨_, Tryd.func57, by kernel_rfl, by kernel_rfl⟩, .cons hc .nil, .cons (by simp) (by simp) (isT_ne HT.out) .nil,
    fun W a b hC ha hb => cmp_78 _ t a b W hC.head (inR_u ha) (inR_u hb)⟩, below_box w _⟩
theorem cmpn_79 (t : Int) (w : World) (ht : isT t) : Calls Tryd.prog 44 #[.int .u8 t, .int .i64 79] w (Gives (CRule t 79) w) := by
  have HT := Lib.hid ht
  clear ht
  have hmf := mkf
  go_enter Tryd.func44, Tryd.ntmps44
  go_wp2
  go_ret
  exact ⟨_, rfl, ⟨58, #[], [], rfl, ⟨_, Tryd.func58, by kernel_rfl, by kernel_rfl⟩, .nil, .nil, fun W a b _ ha hb => cmp_79 t a b W (inR_u ha) (inR_u hb)⟩, below_box w _⟩
end Go.Proofs.YtoclfldmkipokaaDoor.Ints
