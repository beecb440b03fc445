/- IntsAll. -/
import Derived.Test.YtffegkjlgeblbaaGreatDoorChecked
import Derived.WalkKit
import Derived.OpenShut
import Derived.Lib.Hide
import Derived.WalkSpells
import Derived.OwnWalk
import Derived.Below
/- Several parts in one text. -/
/- The document's own small functions of layer 2, walked: what they answer, as plain functions on numbers. -/
namespace Go.Proofs.YtffegkjlgeblbaaGreatDoor.Ints
open Go.RowKit

theorem ret_int {k : IntKind} {a b : Int} (h : a = b) : Ending.returned (.int k a) = .returned (.int k b) := by rw [h]
theorem ret_bool {a b : Bool} (h : a = b) : Ending.returned (.bool a) = .returned (.bool b) := by rw [h]

end Go.Proofs.YtffegkjlgeblbaaGreatDoor.Ints

/- The program's own small functions of layer 2, walked: which type an operator takes and gives, what is signed, what is cut. -/
namespace Go.Proofs.YtffegkjlgeblbaaGreatDoor.Ints
open Go.RowKit

/-- One of the two types. -/
def isT (t : Int) : Prop := t = 127 ∨ t = 126
/-- A number of 64 digits. -/
def u64R (v : Int) : Prop := 0 ≤ v ∧ v ≤ 18446744073709551615
set_option maxRecDepth 100000
theorem value_32 (n : Int) (w : World) : Calls Tryz.prog 289 #[.int .u8 127, .int .i64 n] w fun e w' => e = .returned (.int .u64 (n % 4294967296)) ∧ w = w' := by
  go_enter Tryz.func289, Tryz.ntmps289
  go_wp2
  go_ret
  exact ⟨rfl, rfl⟩
theorem value_64 (t n : Int) (w : World) (ht : t ≠ 127) : Calls Tryz.prog 289 #[.int .u8 t, .int .i64 n] w fun e w' => e = .returned (.int .u64 (n % 18446744073709551616)) ∧ w = w' := by
  have hb : (t == 127) = false := by simpa using ht
  clear ht
  go_enter Tryz.func289, Tryz.ntmps289
  go_wp2
  go_ret
  exact ⟨rfl, rfl⟩
def vaT (t n : Int) : Int := if t = 127 then n % 4294967296 else n % 18446744073709551616
theorem value_any (t n : Int) (w : World) : Calls Tryz.prog 289 #[.int .u8 t, .int .i64 n] w fun e w' => e = .returned (.int .u64 (vaT t n)) ∧ w = w' := by
  by_cases h : t = 127
  · subst h
    exact (value_32 n w).mono fun e w' ⟨h1, h2⟩ => ⟨by rw [h1]; simp [vaT], h2⟩
  · exact (value_64 t n w h).mono fun e w' ⟨h1, h2⟩ => ⟨by rw [h1]; simp [vaT, h], h2⟩
end Go.Proofs.YtffegkjlgeblbaaGreatDoor.Ints

/- What an operator takes and gives, by the program and by the document, and the document's Signed and Value: as XIntsShape and XIntsValuesWalk have them, without what layer 2's own statements want beside. For later layers. -/
namespace Go.Proofs.YtffegkjlgeblbaaGreatDoor.Ints
open Go.RowKit
set_option maxRecDepth 100000
set_option maxHeartbeats 400000

/-- A shape: nothing; of one; of two. -/
def ShN (f : FuncId) (op : Int) : Prop := ∀ w, Calls Tryz.prog f #[.int .i64 op] w fun e w' => e = .returned (.tuple #[.slice none 0 0, .int .u8 0, .bool false]) ∧ w = w'
def Sh1 (f : FuncId) (op T G : Int) : Prop := ∀ w, Calls Tryz.prog f #[.int .i64 op] w fun e w' => e = .returned (.tuple #[.slice (some ⟨w.heap.size, 0, none⟩) 1 1, .int .u8 G, .bool true]) ∧ w.alloc (.cells #[.int .u8 T] 5) = w'
def Sh2 (f : FuncId) (op T G : Int) : Prop := ∀ w, Calls Tryz.prog f #[.int .i64 op] w fun e w' => e = .returned (.tuple #[.slice (some ⟨w.heap.size, 0, none⟩) 2 2, .int .u8 G, .bool true]) ∧ w.alloc (.cells #[.int .u8 T, .int .u8 T] 5) = w'
/-- Is a code an operator? -/
def opB (op : Int) : Bool := decide ((69 ≤ op ∧ op ≤ 90) ∨ (103 ≤ op ∧ op ≤ 138) ∨ op = 167 ∨ op = 172 ∨ op = 173)
/-- A shape, told: whether there is one. -/
def ShIs (f : FuncId) (op : Int) : Prop := ∀ w, Calls Tryz.prog f #[.int .i64 op] w fun e w' => ∃ A n T, e = .returned (.tuple #[.slice A n n, .int .u8 T, .bool (opB op)]) ∧ Below w.heap.size w w'
theorem ShN.is {f : FuncId} {op : Int} (h : ShN f op) (ho : opB op = false) : ShIs f op := fun w => (h w).mono fun e w' ⟨he, hw⟩ => by
  subst he hw
  rw [ho]
  exact ⟨none, 0, 0, rfl, Below.refl _ _⟩
theorem Sh1.is {f : FuncId} {op T G : Int} (h : Sh1 f op T G) (ho : opB op = true) : ShIs f op := fun w => (h w).mono fun e w' ⟨he, hw⟩ => by
  subst he hw
  rw [ho]
  exact ⟨_, 1, _, rfl, (Below.refl _ _).alloc (Nat.le_refl _) _⟩
theorem Sh2.is {f : FuncId} {op T G : Int} (h : Sh2 f op T G) (ho : opB op = true) : ShIs f op := fun w => (h w).mono fun e w' ⟨he, hw⟩ => by
  subst he hw
  rw [ho]
  exact ⟨_, 2, _, rfl, (Below.refl _ _).alloc (Nat.le_refl _) _⟩
end Go.Proofs.YtffegkjlgeblbaaGreatDoor.Ints
