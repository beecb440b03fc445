/- LebLays walked: any number's bytes, behind any others, and how many, are what the document says. -/
import Derived.Test.YtognfgiekffmhaaLebRef
import Derived.Test.YtognfgiekffmhaaLebAwake
import Derived.Test.YtognfgiekffmhaaStab
import Derived.Laws.BytesArg
namespace Go.Proofs.Ytognfgiekffmhaa.Leb
open Go.RowKit

theorem Own.stays {B : Nat} {l : List Int} : Stab.Stays (fun v w => Own w B v l) := fun v w w' h hb =>
  ⟨h.1, h.2.kept ⟨hb.os, hb.tape, hb.output, hb.size, fun k hk _ => hb.block k hk⟩ (row := none) (by cases v.ownBlock <;> simp)⟩

theorem run_text (w : World) (B : Nat) (v : Value) (l : List Int) (h : Own w B v l) : (convert 22 9 v).run Try.prog w = .ok (.string (strOfNums l)) w := by
  obtain ⟨⟨g, c, rfl⟩, ho⟩ := h
  refine run_convert_bytes_arg w 22 5 Try.underlying22 Try.underlying5 g 0 l.length c l rfl (fun i hi => ?_) 9 Try.underlying9
  have := ho.cellAt i (by omega)
  rw [Nat.zero_add, this]
  simp [vb, hi]

set_option maxHeartbeats 1000000 in
set_option maxRecDepth 100000 in
theorem lays_small (A : Option Addr) (c v : Nat) (s : Int) (l : List Int) (w : World) (hA : Byt w w.heap.size A l) (hl : l.length ≤ 1000) (hv : v < 18446744073709551616) (h1 : -9223372036854775808 ≤ s) (h2 : s ≤ 9223372036854775807) :
    Calls Try.prog 3 #[.slice A l.length c, .int .u64 (v : Int), .int .i64 s] w fun e w' => e = .returned (.bool true) ∧ Below w.heap.size w w' := by
  have HA := Lib.hid hA
  have Hv := Lib.hid hv
  have Hs := Lib.hid (And.intro h1 h2)
  clear hA hv h1 h2
  go_enter Try.func3, Try.ntmps3
  go_wp2_with (go_at_call 10; refine (awake_any _).mono ?_; rintro e w1 ⟨rfl, hb1⟩)
  have HA1 := Lib.hid (HA.out.keep hb1)
  refine Stab.region 50 [.is (.bool true), .is (.bool true), .is (.slice A l.length c), .is (.int .u64 (v : Int)), .fits (fun x W => Own W w1.heap.size x (l ++ uB v)), .is (.string (strOfNums (l ++ uB v))),
    .is (.slice A l.length c), .is (.int .u64 (v : Int)), .fits (fun x W => Own W w1.heap.size x (l ++ uB v)), .is (.string (strOfNums (l ++ uB v))), .is (.bool true), .is (.bool true), .is (.bool true),
    .is (.slice A l.length c), .is (.int .i64 s), .fits (fun x W => Own W w1.heap.size x (l ++ sB s)), .is (.string (strOfNums (l ++ sB s))),
    .is (.slice A l.length c), .is (.int .i64 s), .fits (fun x W => Own W w1.heap.size x (l ++ sB s)), .is (.string (strOfNums (l ++ sB s))), .is (.bool true), .is (.bool true), .is (.bool true),
    .is (.int .u64 (v : Int)), .is (.int .i64 (lenU v : Int)), .is (.int .u64 (v : Int)), .is (.int .i64 (lenU v : Int)), .is (.bool true), .is (.bool true), .is (.bool true),
    .is (.int .i64 s), .is (.int .i64 (lenS s : Int)), .is (.int .i64 s), .is (.int .i64 (lenS s : Int)), .is (.bool true), .is (.bool true), .is (.bool true)] (by kernel_rfl) (by kernel_rfl) rfl rfl ?_ ?_
  · repeat' (first | exact Stab.steps_nil | with_reducible refine Stab.steps_cons ?_ ?_ ?_)
    all_goals first
      | exact trivial
      | exact Own.stays
      | exact Stab.owes_move rfl rfl rfl
      | exact Stab.owes_assign rfl rfl rfl
      | exact Stab.owes_pick rfl rfl rfl rfl
      | exact Stab.owes_convert rfl (fun x W _ hx => run_text W _ x _ hx) rfl
      | (refine Stab.owes_bin rfl rfl rfl (fun W => ?_) rfl; go_simp)
      | (refine Stab.owes_call Try.func11 (by kernel_rfl) (by kernel_rfl) rfl (fun vs W hb hall => ?_) rfl; obtain ⟨_, _, rfl, rfl, _, _, rfl, rfl, rfl⟩ := hall; refine (U_any A c v l W ((HA1.out.keep (hb.mono hb1.size)).mono (Nat.le_trans hb1.size hb.size)) (by omega) Hv.out).mono ?_; rintro e w2 ⟨x, rfl, ho, hb2⟩; exact ⟨x, rfl, hb2, ho.mono hb.size⟩)
      | (refine Stab.owes_call Try.func12 (by kernel_rfl) (by kernel_rfl) rfl (fun vs W hb hall => ?_) rfl; obtain ⟨_, _, rfl, rfl, _, _, rfl, rfl, rfl⟩ := hall; refine (refU_any A c v l W ((HA1.out.keep (hb.mono hb1.size)).mono (Nat.le_trans hb1.size hb.size)) (by omega) Hv.out).mono ?_; rintro e w2 ⟨x, rfl, ho, hb2⟩; exact ⟨x, rfl, hb2, ho.mono hb.size⟩)
      | (refine Stab.owes_call Try.func13 (by kernel_rfl) (by kernel_rfl) rfl (fun vs W hb hall => ?_) rfl; obtain ⟨_, _, rfl, rfl, _, _, rfl, rfl, rfl⟩ := hall; refine (S_any A c s l W ((HA1.out.keep (hb.mono hb1.size)).mono (Nat.le_trans hb1.size hb.size)) (by omega) Hs.out.1 Hs.out.2).mono ?_; rintro e w2 ⟨x, rfl, ho, hb2⟩; exact ⟨x, rfl, hb2, ho.mono hb.size⟩)
      | (refine Stab.owes_call Try.func14 (by kernel_rfl) (by kernel_rfl) rfl (fun vs W hb hall => ?_) rfl; obtain ⟨_, _, rfl, rfl, _, _, rfl, rfl, rfl⟩ := hall; refine (refS_any A c s l W ((HA1.out.keep (hb.mono hb1.size)).mono (Nat.le_trans hb1.size hb.size)) (by omega) Hs.out.1 Hs.out.2).mono ?_; rintro e w2 ⟨x, rfl, ho, hb2⟩; exact ⟨x, rfl, hb2, ho.mono hb.size⟩)
      | (refine Stab.owes_call Try.func15 (by kernel_rfl) (by kernel_rfl) rfl (fun vs W hb hall => ?_) rfl; obtain ⟨_, _, rfl, rfl, rfl⟩ := hall; refine (LenU_any v W Hv.out).mono ?_; rintro e w2 ⟨rfl, rfl⟩; exact ⟨_, rfl, Below.refl _ _, rfl⟩)
      | (refine Stab.owes_call Try.func16 (by kernel_rfl) (by kernel_rfl) rfl (fun vs W hb hall => ?_) rfl; obtain ⟨_, _, rfl, rfl, rfl⟩ := hall; refine (refLenU_any v W Hv.out).mono ?_; rintro e w2 ⟨rfl, hb2⟩; exact ⟨_, rfl, hb2, rfl⟩)
      | (refine Stab.owes_call Try.func17 (by kernel_rfl) (by kernel_rfl) rfl (fun vs W hb hall => ?_) rfl; obtain ⟨_, _, rfl, rfl, rfl⟩ := hall; refine (LenS_any s W Hs.out.1 Hs.out.2).mono ?_; rintro e w2 ⟨rfl, rfl⟩; exact ⟨_, rfl, Below.refl _ _, rfl⟩)
      | (refine Stab.owes_call Try.func18 (by kernel_rfl) (by kernel_rfl) rfl (fun vs W hb hall => ?_) rfl; obtain ⟨_, _, rfl, rfl, rfl⟩ := hall; refine (refLenS_any s W Hs.out.1 Hs.out.2).mono ?_; rintro e w2 ⟨rfl, hb2⟩; exact ⟨_, rfl, hb2, rfl⟩)
  · intro x1 x2 x3 x4 W hb _
    simp only [Act.put, List.setIfInBounds_toArray, List.set_cons_succ, List.set_cons_zero]
    go_wp2
    go_ret
    exact ⟨rfl, hb1.trans (hb.mono hb1.size)⟩
set_option maxHeartbeats 400000 in
set_option maxRecDepth 100000 in
theorem lays_big (A : Option Addr) (n c : Nat) (v s : Int) (w : World) (hl : 1000 < n) (hm : n ≤ 9223372036854775807) :
    Calls Try.prog 3 #[.slice A n c, .int .u64 v, .int .i64 s] w fun e w' => e = .returned (.bool true) ∧ Below w.heap.size w w' := by
  go_enter Try.func3, Try.ntmps3
  go_wp2_with (go_at_call 10; refine (awake_any _).mono ?_; rintro e w1 ⟨rfl, hb1⟩)
  go_ret
  exact ⟨rfl, hb1⟩

/-- A slice of bytes that came in, as the row tells it. -/
def Came (k : IntKind) (w : World) (a : Option Addr) (len cap : Nat) (zs : List Int) : Prop :=
  (a = none ∧ len = 0 ∧ cap = 0 ∧ zs = []) ∨
  ∃ x, a = some x ∧ len ≤ cap ∧ cap ≤ maxLen ∧ zs.length = cap ∧ (∀ i, i < zs.length → w.cell? (x.add i) = some (.int k (zs.getD i 0))) ∧ ∀ n ∈ zs, (Lit.int k n).wf = true

theorem Came.byt {w : World} {a : Option Addr} {len cap : Nat} {zs : List Int} (h : Came .u8 w a len cap zs) :
    Byt w w.heap.size a (zs.take len) ∧ (zs.take len).length = len ∧ (∀ x ∈ zs.take len, 0 ≤ x ∧ x ≤ 255) ∧ len ≤ 9223372036854775807 := by
  rcases h with ⟨rfl, rfl, rfl, rfl⟩ | ⟨x, rfl, hl, hm, hz, hc, hw⟩
  · exact ⟨byt_nil _ _ _, rfl, by simp, by omega⟩
  · have hlen : (zs.take len).length = len := by rw [List.length_take]; omega
    unfold maxLen at hm
    refine ⟨fun h0 => ?_, hlen, fun y hy => bounds_u8 (hw y (List.mem_of_mem_take hy)), by omega⟩
    have h1 := hc 0 (by omega)
    refine ⟨x, rfl, ?_, fun j u hu => ?_⟩
    · have := World.block_lt_of_cell? w _ h1
      rwa [show (x.add 0).block = x.block from by unfold Addr.add; split <;> rfl] at this
    · have hj : j < len := by
        rcases Nat.lt_or_ge j len with h | h
        · exact h
        · rw [List.getElem?_eq_none (by rw [vb_length, hlen]; exact h)] at hu; cases hu
      rw [hc j (by omega)]
      rw [← hu]
      simp [vb, hj, show j < zs.length by omega]

theorem lays_any (a : Option Addr) (len cap : Nat) (zs : List Int) (v s : Int) (w : World) (hr : Came .u8 w a len cap zs) (hv : (Lit.int .u64 v).wf = true) (hs : (Lit.int .i64 s).wf = true) :
    Calls Try.prog 3 #[.slice a len cap, .int .u64 v, .int .i64 s] w fun e w' => e = .returned (.bool true) ∧ Below w.heap.size w w' := by
  have b2 := bounds_u64 hv
  have b3 := bounds_i64 hs
  obtain ⟨hb, hl, _, hm⟩ := hr.byt
  by_cases h : len ≤ 1000
  · obtain ⟨u, rfl⟩ := Int.eq_ofNat_of_zero_le b2.1
    have := lays_small a cap u s (zs.take len) w hb (by omega) (by omega) b3.1 b3.2
    rw [hl] at this
    exact this
  · exact lays_big a len cap v s w (by omega) hm
end Go.Proofs.Ytognfgiekffmhaa.Leb
