/- What an operator takes and gives: the program's Shape and the document's, walked. -/
import Derived.Test.YtoclfldmkipokaaDoorIntsPure
namespace Go.Proofs.YtoclfldmkipokaaDoor.Ints
open Go.RowKit
set_option maxRecDepth 100000
set_option maxHeartbeats 400000

/-- A shape: nothing; of one; of two. -/
def ShN (f : FuncId) (op : Int) : Prop := ∀ w, Calls Tryd.prog f #[.int .i64 op] w fun e w' => e = .returned (.tuple #[.slice none 0 0, .int .u8 0, .bool false]) ∧ w = w'
def Sh1 (f : FuncId) (op T G : Int) : Prop := ∀ w, Calls Tryd.prog f #[.int .i64 op] w fun e w' => e = .returned (.tuple #[.slice (some ⟨w.heap.size, 0, none⟩) 1 1, .int .u8 G, .bool true]) ∧ w.alloc (.cells #[.int .u8 T] 5) = w'
def Sh2 (f : FuncId) (op T G : Int) : Prop := ∀ w, Calls Tryd.prog f #[.int .i64 op] w fun e w' => e = .returned (.tuple #[.slice (some ⟨w.heap.size, 0, none⟩) 2 2, .int .u8 G, .bool true]) ∧ w.alloc (.cells #[.int .u8 T, .int .u8 T] 5) = w'
theorem shape_none (op : Int) (h1 : famB op = false) : ShN 14 op := by
  intro w
  go_enter Tryd.func14, Tryd.ntmps14
  go_wp2_with (first | (go_at_call 26; refine (family_any _ _).mono ?_; rintro e w' ⟨rfl, rfl⟩))
  go_ret3
  exact ⟨rfl, rfl⟩
theorem shape_one (op T G : Int) (h1 : famB op = true) (h2 : tkB (famL op) = true) (hT : famT op = T) (hG : gvT T (famL op) = G) : Sh1 14 op T G := by
  intro w
  subst hT hG
  go_enter Tryd.func14, Tryd.ntmps14
  go_wp2_with (first | (go_at_call 26; refine (family_any _ _).mono ?_; rintro e w' ⟨rfl, rfl⟩) | (go_at_call 27; refine (takes_any _ _).mono ?_; rintro e w' ⟨rfl, rfl⟩) | (go_at_call 28; refine (given_any _ _ _).mono ?_; rintro e w' ⟨rfl, rfl⟩))
  go_ret3
  exact ⟨rfl, rfl⟩
theorem shape_two (op T G : Int) (h1 : famB op = true) (h2 : tkB (famL op) = false) (hT : famT op = T) (hG : gvT T (famL op) = G) : Sh2 14 op T G := by
  intro w
  subst hT hG
  go_enter Tryd.func14, Tryd.ntmps14
  go_wp2_with (first | (go_at_call 26; refine (family_any _ _).mono ?_; rintro e w' ⟨rfl, rfl⟩) | (go_at_call 27; refine (takes_any _ _).mono ?_; rintro e w' ⟨rfl, rfl⟩) | (go_at_call 28; refine (given_any _ _ _).mono ?_; rintro e w' ⟨rfl, rfl⟩))
  go_ret3
  exact ⟨rfl, rfl⟩
theorem of_32 (w : World) : Calls Tryd.prog 30 #[.int .i64 32] w fun e w' => e = .returned (.int .u8 127) ∧ w = w' := by
  go_enter Tryd.func30, Tryd.ntmps30
  go_wp2
  go_ret
  exact ⟨rfl, rfl⟩
theorem of_64 (w : World) : Calls Tryd.prog 30 #[.int .i64 64] w fun e w' => e = .returned (.int .u8 126) ∧ w = w' := by
  go_enter Tryd.func30, Tryd.ntmps30
  go_wp2
  go_ret
  exact ⟨rfl, rfl⟩
/-- An operator's place among those of its type, and how many digits. -/
def KindIs (op k n : Int) : Prop := ∀ w, Calls Tryd.prog 29 #[.int .i64 op] w fun e w' => e = .returned (.tuple #[.int .i64 k, .int .i64 n]) ∧ w = w'
theorem rsh_167 : Sh1 15 167 126 127 := by
  intro w
  have HK := Lib.hid (fun W => kind_none 167 W (by unfold noKind; omega))
  go_enter Tryd.func15, Tryd.ntmps15
  go_wp2_with fail
  refine (HK.out _).mono ?_
  rintro e w' ⟨rfl, rfl⟩
  go_wp2_with fail
  go_ret3
  exact ⟨rfl, rfl⟩
theorem rsh_ext (op : Int) (h : op = 172 ∨ op = 173) : Sh1 15 op 127 126 := by
  intro w
  have HK := Lib.hid (fun W => kind_none op W (by unfold noKind; omega))
  rcases h with rfl | rfl <;>
  · go_enter Tryd.func15, Tryd.ntmps15
    go_wp2_with fail
    refine (HK.out _).mono ?_
    rintro e w' ⟨rfl, rfl⟩
    go_wp2_with fail
    go_ret3
    exact ⟨rfl, rfl⟩
theorem rsh_none (op : Int) (hn : noKind op) (e1 : (op == 167) = false) (e2 : (op == 172) = false) (e3 : (op == 173) = false) : ShN 15 op := by
  intro w
  have HK := Lib.hid (fun W => kind_none op W hn)
  clear hn
  go_enter Tryd.func15, Tryd.ntmps15
  go_wp2_with fail
  refine (HK.out _).mono ?_
  rintro e w' ⟨rfl, rfl⟩
  go_wp2_with fail
  go_ret3
  exact ⟨rfl, rfl⟩
/-- A place's shape: the test of one digit's width. -/
theorem rsh_0 (op n T : Int) (hk : KindIs op 0 n) (e1 : (op == 167) = false) (e2 : (op == 172) = false) (e3 : (op == 173) = false) (hf : ∀ W, Calls Tryd.prog 30 #[.int .i64 n] W fun e w' => e = .returned (.int .u8 T) ∧ W = w') : Sh1 15 op T 127 := by
  intro w
  have HK := Lib.hid hk
  have HF := Lib.hid hf
  clear hk hf
  go_enter Tryd.func15, Tryd.ntmps15
  go_wp2_with fail
  refine (HK.out _).mono ?_
  rintro e w' ⟨rfl, rfl⟩
  go_wp2_with fail
  refine (HF.out _).mono ?_
  rintro e w' ⟨rfl, rfl⟩
  go_wp2_with fail
  go_ret3
  exact ⟨rfl, rfl⟩
theorem rsh_c (op k n T : Int) (hk : KindIs op k n) (k1 : 1 ≤ k) (k2 : k ≤ 10) (e1 : (op == 167) = false) (e2 : (op == 172) = false) (e3 : (op == 173) = false) (hf : ∀ W, Calls Tryd.prog 30 #[.int .i64 n] W fun e w' => e = .returned (.int .u8 T) ∧ W = w') : Sh2 15 op T 127 := by
  intro w
  have HK := Lib.hid hk
  have HF := Lib.hid hf
  have e0 : (k == 0) = false := by simp; omega
  have d0 : decide (k < 0) = false := by simp; omega
  clear hk hf
  go_enter Tryd.func15, Tryd.ntmps15
  go_wp2_with fail
  refine (HK.out _).mono ?_
  rintro e w' ⟨rfl, rfl⟩
  go_wp2_with fail
  refine (HF.out _).mono ?_
  rintro e w' ⟨rfl, rfl⟩
  go_wp2_with fail
  refine (HF.out _).mono ?_
  rintro e w' ⟨rfl, rfl⟩
  go_wp2_with fail
  go_ret3
  exact ⟨rfl, rfl⟩
theorem rsh_1 (op k n T : Int) (hk : KindIs op k n) (k1 : 11 ≤ k) (k2 : k ≤ 13) (e1 : (op == 167) = false) (e2 : (op == 172) = false) (e3 : (op == 173) = false) (hf : ∀ W, Calls Tryd.prog 30 #[.int .i64 n] W fun e w' => e = .returned (.int .u8 T) ∧ W = w') : Sh1 15 op T T := by
  intro w
  have HK := Lib.hid hk
  have HF := Lib.hid hf
  have e0 : (k == 0) = false := by simp; omega
  have d0 : decide (k < 0) = false := by simp; omega
  have d1 : decide (k ≤ 10) = false := by simp; omega
  clear hk hf
  go_enter Tryd.func15, Tryd.ntmps15
  go_wp2_with fail
  refine (HK.out _).mono ?_
  rintro e w' ⟨rfl, rfl⟩
  go_wp2_with fail
  refine (HF.out _).mono ?_
  rintro e w' ⟨rfl, rfl⟩
  go_wp2_with fail
  refine (HF.out _).mono ?_
  rintro e w' ⟨rfl, rfl⟩
  go_wp2_with fail
  go_ret3
  exact ⟨rfl, rfl⟩
theorem rsh_2 (op k n T : Int) (hk : KindIs op k n) (k1 : 14 ≤ k) (e1 : (op == 167) = false) (e2 : (op == 172) = false) (e3 : (op == 173) = false) (hf : ∀ W, Calls Tryd.prog 30 #[.int .i64 n] W fun e w' => e = .returned (.int .u8 T) ∧ W = w') : Sh2 15 op T T := by
  intro w
  have HK := Lib.hid hk
  have HF := Lib.hid hf
  have e0 : (k == 0) = false := by simp; omega
  have d0 : decide (k < 0) = false := by simp; omega
  have d1 : decide (k ≤ 10) = false := by simp; omega
  have d2 : decide (k ≤ 13) = false := by simp; omega
  clear hk hf
  go_enter Tryd.func15, Tryd.ntmps15
  go_wp2_with fail
  refine (HK.out _).mono ?_
  rintro e w' ⟨rfl, rfl⟩
  go_wp2_with fail
  refine (HF.out _).mono ?_
  rintro e w' ⟨rfl, rfl⟩
  go_wp2_with fail
  refine (HF.out _).mono ?_
  rintro e w' ⟨rfl, rfl⟩
  go_wp2_with fail
  refine (HF.out _).mono ?_
  rintro e w' ⟨rfl, rfl⟩
  go_wp2_with fail
  go_ret3
  exact ⟨rfl, rfl⟩
end Go.Proofs.YtoclfldmkipokaaDoor.Ints
