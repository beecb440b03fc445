/- The document's first number, walked: the ways to its end. -/
import Derived.Test.YtkdnhhhgggmapaaUtfWords
import Derived.LoopN
namespace Go.Proofs.Ytkdnhhhgggmapaa.Utf
open Go.RowKit
set_option maxRecDepth 100000
set_option maxHeartbeats 400000

theorem first_1e (g off k : Nat) (a : Int) (l : List Int) (w : World) (h0 : 0 ≤ a) (h1 : a < 128)  (hl : 1 ≤ l.length) (hc : l.length ≤ k) (hm : k ≤ 9223372036854775807) (c0 : w.cell? ⟨g, off, none⟩ = some (.int .u8 a)) (hB : Byt w w.heap.size ⟨g, off, none⟩ l) (hv : strOfNums (layL (a)) = strOfNums (l.take 1)) :
    Calls Try.prog 48 #[.slice (some ⟨g, off, none⟩) l.length k] w fun e w' => e = .returned (.tuple #[.int .i64 (a), .int .i64 1]) ∧ Below w.heap.size w w' := by
  have HB := Lib.hid hB
  have HV := Lib.hid hv
  have t4 : decide ((l.length : Int) < 1) = false := by simp; omega
  have HL : Hid ((l.take 1).length = 1) := by show _ = _; rw [List.length_take]; omega
  clear hB hv
  go_enter Try.func48, Try.ntmps48
  go_wp2_with fail
  refine wp_loop_rounds 1 ?_
  rw [rounds_succ]
  go_wp2_with fail
  refine Stab.region 87 [.is (.int .i64 (a)), .fits (LayV (a)), .is (.string (strOfNums (layL (a)))), .is (.slice (some ⟨g, off, none⟩) l.length k), .is (.int .i64 1), .is (.slice (some ⟨g, off, none⟩) 1 k), .is (.string (strOfNums (l.take 1))), .is (.bool false)] (by kernel_rfl) (by kernel_rfl) rfl rfl ?_ ?_
  · repeat' (first | exact Stab.steps_nil | with_reducible refine Stab.steps_cons ?_ ?_ ?_)
    all_goals first
      | exact trivial
      | exact LayV.stays
      | exact Stab.owes_move rfl rfl rfl
      | (refine Stab.owes_call Try.func51 (by kernel_rfl) (by kernel_rfl) rfl (fun vs W hb hall => ?_) rfl; obtain ⟨_, _, rfl, rfl, rfl⟩ := hall; exact rlay_any _ W)
      | exact Stab.owes_convert rfl (fun x W _ hx => LayV.txt hx) rfl
      | (refine Stab.owes_convert rfl (fun x W hb hx => ?_) rfl; obtain rfl : x = .slice (some ⟨g, off, none⟩) 1 k := hx; exact run_txt W g off 1 k _ HL.out (by have h := ((HB.out.keep hb).take 1).2.2; rw [HL.out] at h; exact h))
      | (refine Stab.owes_bin rfl rfl rfl (fun W => ?_) rfl; have hv := HV.out; go_simp; done)
      | (refine Stab.owes_upto rfl rfl rfl (fun W => ?_) rfl; have hn : (1 : Int) ≤ (k : Int) := (by omega); go_simp; done)
  · intro x W hb _
    simp only [Act.put, List.setIfInBounds_toArray, List.set_cons_succ, List.set_cons_zero]
    go_wp2_with fail
    go_ret2
    exact ⟨rfl, hb⟩
theorem first_2e (g off k : Nat) (a b : Int) (l : List Int) (w : World) (h1 : 192 ≤ a) (h2 : a < 224) (b1 : 128 ≤ b) (b2 : b ≤ 191) (hl : 2 ≤ l.length) (hc : l.length ≤ k) (hm : k ≤ 9223372036854775807) (c0 : w.cell? ⟨g, off, none⟩ = some (.int .u8 a)) (c1 : w.cell? ⟨g, off + 1, none⟩ = some (.int .u8 b)) (hB : Byt w w.heap.size ⟨g, off, none⟩ l) (hv : strOfNums (layL ((a - 192) * 64 + b - 128)) = strOfNums (l.take 2)) :
    Calls Try.prog 48 #[.slice (some ⟨g, off, none⟩) l.length k] w fun e w' => e = .returned (.tuple #[.int .i64 ((a - 192) * 64 + b - 128), .int .i64 2]) ∧ Below w.heap.size w w' := by
  have HB := Lib.hid hB
  have HV := Lib.hid hv
  have t1 : decide (a < 128) = false := by simp; omega
  have t4 : decide ((l.length : Int) < 2) = false := by simp; omega
  have HL : Hid ((l.take 2).length = 2) := by show _ = _; rw [List.length_take]; omega
  clear hB hv
  go_enter Try.func48, Try.ntmps48
  go_wp2_with fail
  refine wp_loop_rounds 2 ?_
  rw [rounds_succ]
  go_wp2_with fail
  rw [rounds_succ]
  go_wp2_with fail
  refine Stab.region 87 [.is (.int .i64 ((a - 192) * 64 + b - 128)), .fits (LayV ((a - 192) * 64 + b - 128)), .is (.string (strOfNums (layL ((a - 192) * 64 + b - 128)))), .is (.slice (some ⟨g, off, none⟩) l.length k), .is (.int .i64 2), .is (.slice (some ⟨g, off, none⟩) 2 k), .is (.string (strOfNums (l.take 2))), .is (.bool false)] (by kernel_rfl) (by kernel_rfl) rfl rfl ?_ ?_
  · repeat' (first | exact Stab.steps_nil | with_reducible refine Stab.steps_cons ?_ ?_ ?_)
    all_goals first
      | exact trivial
      | exact LayV.stays
      | exact Stab.owes_move rfl rfl rfl
      | (refine Stab.owes_call Try.func51 (by kernel_rfl) (by kernel_rfl) rfl (fun vs W hb hall => ?_) rfl; obtain ⟨_, _, rfl, rfl, rfl⟩ := hall; exact rlay_any _ W)
      | exact Stab.owes_convert rfl (fun x W _ hx => LayV.txt hx) rfl
      | (refine Stab.owes_convert rfl (fun x W hb hx => ?_) rfl; obtain rfl : x = .slice (some ⟨g, off, none⟩) 2 k := hx; exact run_txt W g off 2 k _ HL.out (by have h := ((HB.out.keep hb).take 2).2.2; rw [HL.out] at h; exact h))
      | (refine Stab.owes_bin rfl rfl rfl (fun W => ?_) rfl; have hv := HV.out; go_simp; done)
      | (refine Stab.owes_upto rfl rfl rfl (fun W => ?_) rfl; have hn : (2 : Int) ≤ (k : Int) := (by omega); go_simp; done)
  · intro x W hb _
    simp only [Act.put, List.setIfInBounds_toArray, List.set_cons_succ, List.set_cons_zero]
    go_wp2_with fail
    go_ret2
    exact ⟨rfl, hb⟩
theorem first_2n (g off k : Nat) (a b : Int) (l : List Int) (w : World) (h1 : 192 ≤ a) (h2 : a < 224) (b1 : 128 ≤ b) (b2 : b ≤ 191) (hl : 2 ≤ l.length) (hc : l.length ≤ k) (hm : k ≤ 9223372036854775807) (c0 : w.cell? ⟨g, off, none⟩ = some (.int .u8 a)) (c1 : w.cell? ⟨g, off + 1, none⟩ = some (.int .u8 b)) (hB : Byt w w.heap.size ⟨g, off, none⟩ l) (hv : ¬ strOfNums (layL ((a - 192) * 64 + b - 128)) = strOfNums (l.take 2)) :
    Calls Try.prog 48 #[.slice (some ⟨g, off, none⟩) l.length k] w fun e w' => e = .returned (.tuple #[.int .i64 0, .int .i64 0]) ∧ Below w.heap.size w w' := by
  have HB := Lib.hid hB
  have HV := Lib.hid hv
  have t1 : decide (a < 128) = false := by simp; omega
  have t4 : decide ((l.length : Int) < 2) = false := by simp; omega
  have HL : Hid ((l.take 2).length = 2) := by show _ = _; rw [List.length_take]; omega
  clear hB hv
  go_enter Try.func48, Try.ntmps48
  go_wp2_with fail
  refine wp_loop_rounds 2 ?_
  rw [rounds_succ]
  go_wp2_with fail
  rw [rounds_succ]
  go_wp2_with fail
  refine Stab.region 87 [.is (.int .i64 ((a - 192) * 64 + b - 128)), .fits (LayV ((a - 192) * 64 + b - 128)), .is (.string (strOfNums (layL ((a - 192) * 64 + b - 128)))), .is (.slice (some ⟨g, off, none⟩) l.length k), .is (.int .i64 2), .is (.slice (some ⟨g, off, none⟩) 2 k), .is (.string (strOfNums (l.take 2))), .is (.bool true)] (by kernel_rfl) (by kernel_rfl) rfl rfl ?_ ?_
  · repeat' (first | exact Stab.steps_nil | with_reducible refine Stab.steps_cons ?_ ?_ ?_)
    all_goals first
      | exact trivial
      | exact LayV.stays
      | exact Stab.owes_move rfl rfl rfl
      | (refine Stab.owes_call Try.func51 (by kernel_rfl) (by kernel_rfl) rfl (fun vs W hb hall => ?_) rfl; obtain ⟨_, _, rfl, rfl, rfl⟩ := hall; exact rlay_any _ W)
      | exact Stab.owes_convert rfl (fun x W _ hx => LayV.txt hx) rfl
      | (refine Stab.owes_convert rfl (fun x W hb hx => ?_) rfl; obtain rfl : x = .slice (some ⟨g, off, none⟩) 2 k := hx; exact run_txt W g off 2 k _ HL.out (by have h := ((HB.out.keep hb).take 2).2.2; rw [HL.out] at h; exact h))
      | (refine Stab.owes_bin rfl rfl rfl (fun W => ?_) rfl; have hv := HV.out; go_simp; exact fun e => hv (str_toList e))
      | (refine Stab.owes_upto rfl rfl rfl (fun W => ?_) rfl; have hn : (2 : Int) ≤ (k : Int) := (by omega); go_simp; done)
  · intro x W hb _
    simp only [Act.put, List.setIfInBounds_toArray, List.set_cons_succ, List.set_cons_zero]
    go_wp2_with fail
    go_ret2
    exact ⟨rfl, hb⟩
theorem first_3e (g off k : Nat) (a b c : Int) (l : List Int) (w : World) (h1 : 224 ≤ a) (h2 : a < 240) (b1 : 128 ≤ b) (b2 : b ≤ 191) (c1 : 128 ≤ c) (c2 : c ≤ 191) (hl : 3 ≤ l.length) (hc : l.length ≤ k) (hm : k ≤ 9223372036854775807) (c0 : w.cell? ⟨g, off, none⟩ = some (.int .u8 a)) (c1 : w.cell? ⟨g, off + 1, none⟩ = some (.int .u8 b)) (c2 : w.cell? ⟨g, off + 2, none⟩ = some (.int .u8 c)) (hB : Byt w w.heap.size ⟨g, off, none⟩ l) (hv : strOfNums (layL (((a - 224) * 64 + b - 128) * 64 + c - 128)) = strOfNums (l.take 3)) :
    Calls Try.prog 48 #[.slice (some ⟨g, off, none⟩) l.length k] w fun e w' => e = .returned (.tuple #[.int .i64 (((a - 224) * 64 + b - 128) * 64 + c - 128), .int .i64 3]) ∧ Below w.heap.size w w' := by
  have HB := Lib.hid hB
  have HV := Lib.hid hv
  have t1 : decide (a < 128) = false := by simp; omega
  have t2 : decide (a < 224) = false := by simp; omega
  have t4 : decide ((l.length : Int) < 3) = false := by simp; omega
  have HL : Hid ((l.take 3).length = 3) := by show _ = _; rw [List.length_take]; omega
  clear hB hv
  go_enter Try.func48, Try.ntmps48
  go_wp2_with fail
  refine wp_loop_rounds 3 ?_
  rw [rounds_succ]
  go_wp2_with fail
  rw [rounds_succ]
  go_wp2_with fail
  rw [rounds_succ]
  go_wp2_with fail
  refine Stab.region 87 [.is (.int .i64 (((a - 224) * 64 + b - 128) * 64 + c - 128)), .fits (LayV (((a - 224) * 64 + b - 128) * 64 + c - 128)), .is (.string (strOfNums (layL (((a - 224) * 64 + b - 128) * 64 + c - 128)))), .is (.slice (some ⟨g, off, none⟩) l.length k), .is (.int .i64 3), .is (.slice (some ⟨g, off, none⟩) 3 k), .is (.string (strOfNums (l.take 3))), .is (.bool false)] (by kernel_rfl) (by kernel_rfl) rfl rfl ?_ ?_
  · repeat' (first | exact Stab.steps_nil | with_reducible refine Stab.steps_cons ?_ ?_ ?_)
    all_goals first
      | exact trivial
      | exact LayV.stays
      | exact Stab.owes_move rfl rfl rfl
      | (refine Stab.owes_call Try.func51 (by kernel_rfl) (by kernel_rfl) rfl (fun vs W hb hall => ?_) rfl; obtain ⟨_, _, rfl, rfl, rfl⟩ := hall; exact rlay_any _ W)
      | exact Stab.owes_convert rfl (fun x W _ hx => LayV.txt hx) rfl
      | (refine Stab.owes_convert rfl (fun x W hb hx => ?_) rfl; obtain rfl : x = .slice (some ⟨g, off, none⟩) 3 k := hx; exact run_txt W g off 3 k _ HL.out (by have h := ((HB.out.keep hb).take 3).2.2; rw [HL.out] at h; exact h))
      | (refine Stab.owes_bin rfl rfl rfl (fun W => ?_) rfl; have hv := HV.out; go_simp; done)
      | (refine Stab.owes_upto rfl rfl rfl (fun W => ?_) rfl; have hn : (3 : Int) ≤ (k : Int) := (by omega); go_simp; done)
  · intro x W hb _
    simp only [Act.put, List.setIfInBounds_toArray, List.set_cons_succ, List.set_cons_zero]
    go_wp2_with fail
    go_ret2
    exact ⟨rfl, hb⟩
theorem first_3n (g off k : Nat) (a b c : Int) (l : List Int) (w : World) (h1 : 224 ≤ a) (h2 : a < 240) (b1 : 128 ≤ b) (b2 : b ≤ 191) (c1 : 128 ≤ c) (c2 : c ≤ 191) (hl : 3 ≤ l.length) (hc : l.length ≤ k) (hm : k ≤ 9223372036854775807) (c0 : w.cell? ⟨g, off, none⟩ = some (.int .u8 a)) (c1 : w.cell? ⟨g, off + 1, none⟩ = some (.int .u8 b)) (c2 : w.cell? ⟨g, off + 2, none⟩ = some (.int .u8 c)) (hB : Byt w w.heap.size ⟨g, off, none⟩ l) (hv : ¬ strOfNums (layL (((a - 224) * 64 + b - 128) * 64 + c - 128)) = strOfNums (l.take 3)) :
    Calls Try.prog 48 #[.slice (some ⟨g, off, none⟩) l.length k] w fun e w' => e = .returned (.tuple #[.int .i64 0, .int .i64 0]) ∧ Below w.heap.size w w' := by
  have HB := Lib.hid hB
  have HV := Lib.hid hv
  have t1 : decide (a < 128) = false := by simp; omega
  have t2 : decide (a < 224) = false := by simp; omega
  have t4 : decide ((l.length : Int) < 3) = false := by simp; omega
  have HL : Hid ((l.take 3).length = 3) := by show _ = _; rw [List.length_take]; omega
  clear hB hv
  go_enter Try.func48, Try.ntmps48
  go_wp2_with fail
  refine wp_loop_rounds 3 ?_
  rw [rounds_succ]
  go_wp2_with fail
  rw [rounds_succ]
  go_wp2_with fail
  rw [rounds_succ]
  go_wp2_with fail
  refine Stab.region 87 [.is (.int .i64 (((a - 224) * 64 + b - 128) * 64 + c - 128)), .fits (LayV (((a - 224) * 64 + b - 128) * 64 + c - 128)), .is (.string (strOfNums (layL (((a - 224) * 64 + b - 128) * 64 + c - 128)))), .is (.slice (some ⟨g, off, none⟩) l.length k), .is (.int .i64 3), .is (.slice (some ⟨g, off, none⟩) 3 k), .is (.string (strOfNums (l.take 3))), .is (.bool true)] (by kernel_rfl) (by kernel_rfl) rfl rfl ?_ ?_
  · repeat' (first | exact Stab.steps_nil | with_reducible refine Stab.steps_cons ?_ ?_ ?_)
    all_goals first
      | exact trivial
      | exact LayV.stays
      | exact Stab.owes_move rfl rfl rfl
      | (refine Stab.owes_call Try.func51 (by kernel_rfl) (by kernel_rfl) rfl (fun vs W hb hall => ?_) rfl; obtain ⟨_, _, rfl, rfl, rfl⟩ := hall; exact rlay_any _ W)
      | exact Stab.owes_convert rfl (fun x W _ hx => LayV.txt hx) rfl
      | (refine Stab.owes_convert rfl (fun x W hb hx => ?_) rfl; obtain rfl : x = .slice (some ⟨g, off, none⟩) 3 k := hx; exact run_txt W g off 3 k _ HL.out (by have h := ((HB.out.keep hb).take 3).2.2; rw [HL.out] at h; exact h))
      | (refine Stab.owes_bin rfl rfl rfl (fun W => ?_) rfl; have hv := HV.out; go_simp; exact fun e => hv (str_toList e))
      | (refine Stab.owes_upto rfl rfl rfl (fun W => ?_) rfl; have hn : (3 : Int) ≤ (k : Int) := (by omega); go_simp; done)
  · intro x W hb _
    simp only [Act.put, List.setIfInBounds_toArray, List.set_cons_succ, List.set_cons_zero]
    go_wp2_with fail
    go_ret2
    exact ⟨rfl, hb⟩
theorem first_4e (g off k : Nat) (a b c d : Int) (l : List Int) (w : World) (h1 : 240 ≤ a) (h2 : a < 248) (b1 : 128 ≤ b) (b2 : b ≤ 191) (c1 : 128 ≤ c) (c2 : c ≤ 191) (d1 : 128 ≤ d) (d2 : d ≤ 191) (hl : 4 ≤ l.length) (hc : l.length ≤ k) (hm : k ≤ 9223372036854775807) (c0 : w.cell? ⟨g, off, none⟩ = some (.int .u8 a)) (c1 : w.cell? ⟨g, off + 1, none⟩ = some (.int .u8 b)) (c2 : w.cell? ⟨g, off + 2, none⟩ = some (.int .u8 c)) (c3 : w.cell? ⟨g, off + 3, none⟩ = some (.int .u8 d)) (hB : Byt w w.heap.size ⟨g, off, none⟩ l) (hv : strOfNums (layL ((((a - 240) * 64 + b - 128) * 64 + c - 128) * 64 + d - 128)) = strOfNums (l.take 4)) :
    Calls Try.prog 48 #[.slice (some ⟨g, off, none⟩) l.length k] w fun e w' => e = .returned (.tuple #[.int .i64 ((((a - 240) * 64 + b - 128) * 64 + c - 128) * 64 + d - 128), .int .i64 4]) ∧ Below w.heap.size w w' := by
  have HB := Lib.hid hB
  have HV := Lib.hid hv
  have t1 : decide (a < 128) = false := by simp; omega
  have t2 : decide (a < 224) = false := by simp; omega
  have t3 : decide (a < 240) = false := by simp; omega
  have t4 : decide ((l.length : Int) < 4) = false := by simp; omega
  have HL : Hid ((l.take 4).length = 4) := by show _ = _; rw [List.length_take]; omega
  clear hB hv
  go_enter Try.func48, Try.ntmps48
  go_wp2_with fail
  refine wp_loop_rounds 4 ?_
  rw [rounds_succ]
  go_wp2_with fail
  rw [rounds_succ]
  go_wp2_with fail
  rw [rounds_succ]
  go_wp2_with fail
  rw [rounds_succ]
  go_wp2_with fail
  refine Stab.region 87 [.is (.int .i64 ((((a - 240) * 64 + b - 128) * 64 + c - 128) * 64 + d - 128)), .fits (LayV ((((a - 240) * 64 + b - 128) * 64 + c - 128) * 64 + d - 128)), .is (.string (strOfNums (layL ((((a - 240) * 64 + b - 128) * 64 + c - 128) * 64 + d - 128)))), .is (.slice (some ⟨g, off, none⟩) l.length k), .is (.int .i64 4), .is (.slice (some ⟨g, off, none⟩) 4 k), .is (.string (strOfNums (l.take 4))), .is (.bool false)] (by kernel_rfl) (by kernel_rfl) rfl rfl ?_ ?_
  · repeat' (first | exact Stab.steps_nil | with_reducible refine Stab.steps_cons ?_ ?_ ?_)
    all_goals first
      | exact trivial
      | exact LayV.stays
      | exact Stab.owes_move rfl rfl rfl
      | (refine Stab.owes_call Try.func51 (by kernel_rfl) (by kernel_rfl) rfl (fun vs W hb hall => ?_) rfl; obtain ⟨_, _, rfl, rfl, rfl⟩ := hall; exact rlay_any _ W)
      | exact Stab.owes_convert rfl (fun x W _ hx => LayV.txt hx) rfl
      | (refine Stab.owes_convert rfl (fun x W hb hx => ?_) rfl; obtain rfl : x = .slice (some ⟨g, off, none⟩) 4 k := hx; exact run_txt W g off 4 k _ HL.out (by have h := ((HB.out.keep hb).take 4).2.2; rw [HL.out] at h; exact h))
      | (refine Stab.owes_bin rfl rfl rfl (fun W => ?_) rfl; have hv := HV.out; go_simp; done)
      | (refine Stab.owes_upto rfl rfl rfl (fun W => ?_) rfl; have hn : (4 : Int) ≤ (k : Int) := (by omega); go_simp; done)
  · intro x W hb _
    simp only [Act.put, List.setIfInBounds_toArray, List.set_cons_succ, List.set_cons_zero]
    go_wp2_with fail
    go_ret2
    exact ⟨rfl, hb⟩
theorem first_4n (g off k : Nat) (a b c d : Int) (l : List Int) (w : World) (h1 : 240 ≤ a) (h2 : a < 248) (b1 : 128 ≤ b) (b2 : b ≤ 191) (c1 : 128 ≤ c) (c2 : c ≤ 191) (d1 : 128 ≤ d) (d2 : d ≤ 191) (hl : 4 ≤ l.length) (hc : l.length ≤ k) (hm : k ≤ 9223372036854775807) (c0 : w.cell? ⟨g, off, none⟩ = some (.int .u8 a)) (c1 : w.cell? ⟨g, off + 1, none⟩ = some (.int .u8 b)) (c2 : w.cell? ⟨g, off + 2, none⟩ = some (.int .u8 c)) (c3 : w.cell? ⟨g, off + 3, none⟩ = some (.int .u8 d)) (hB : Byt w w.heap.size ⟨g, off, none⟩ l) (hv : ¬ strOfNums (layL ((((a - 240) * 64 + b - 128) * 64 + c - 128) * 64 + d - 128)) = strOfNums (l.take 4)) :
    Calls Try.prog 48 #[.slice (some ⟨g, off, none⟩) l.length k] w fun e w' => e = .returned (.tuple #[.int .i64 0, .int .i64 0]) ∧ Below w.heap.size w w' := by
  have HB := Lib.hid hB
  have HV := Lib.hid hv
  have t1 : decide (a < 128) = false := by simp; omega
  have t2 : decide (a < 224) = false := by simp; omega
  have t3 : decide (a < 240) = false := by simp; omega
  have t4 : decide ((l.length : Int) < 4) = false := by simp; omega
  have HL : Hid ((l.take 4).length = 4) := by show _ = _; rw [List.length_take]; omega
  clear hB hv
  go_enter Try.func48, Try.ntmps48
  go_wp2_with fail
  refine wp_loop_rounds 4 ?_
  rw [rounds_succ]
  go_wp2_with fail
  rw [rounds_succ]
  go_wp2_with fail
  rw [rounds_succ]
  go_wp2_with fail
  rw [rounds_succ]
  go_wp2_with fail
  refine Stab.region 87 [.is (.int .i64 ((((a - 240) * 64 + b - 128) * 64 + c - 128) * 64 + d - 128)), .fits (LayV ((((a - 240) * 64 + b - 128) * 64 + c - 128) * 64 + d - 128)), .is (.string (strOfNums (layL ((((a - 240) * 64 + b - 128) * 64 + c - 128) * 64 + d - 128)))), .is (.slice (some ⟨g, off, none⟩) l.length k), .is (.int .i64 4), .is (.slice (some ⟨g, off, none⟩) 4 k), .is (.string (strOfNums (l.take 4))), .is (.bool true)] (by kernel_rfl) (by kernel_rfl) rfl rfl ?_ ?_
  · repeat' (first | exact Stab.steps_nil | with_reducible refine Stab.steps_cons ?_ ?_ ?_)
    all_goals first
      | exact trivial
      | exact LayV.stays
      | exact Stab.owes_move rfl rfl rfl
      | (refine Stab.owes_call Try.func51 (by kernel_rfl) (by kernel_rfl) rfl (fun vs W hb hall => ?_) rfl; obtain ⟨_, _, rfl, rfl, rfl⟩ := hall; exact rlay_any _ W)
      | exact Stab.owes_convert rfl (fun x W _ hx => LayV.txt hx) rfl
      | (refine Stab.owes_convert rfl (fun x W hb hx => ?_) rfl; obtain rfl : x = .slice (some ⟨g, off, none⟩) 4 k := hx; exact run_txt W g off 4 k _ HL.out (by have h := ((HB.out.keep hb).take 4).2.2; rw [HL.out] at h; exact h))
      | (refine Stab.owes_bin rfl rfl rfl (fun W => ?_) rfl; have hv := HV.out; go_simp; exact fun e => hv (str_toList e))
      | (refine Stab.owes_upto rfl rfl rfl (fun W => ?_) rfl; have hn : (4 : Int) ≤ (k : Int) := (by omega); go_simp; done)
  · intro x W hb _
    simp only [Act.put, List.setIfInBounds_toArray, List.set_cons_succ, List.set_cons_zero]
    go_wp2_with fail
    go_ret2
    exact ⟨rfl, hb⟩
end Go.Proofs.Ytkdnhhhgggmapaa.Utf
