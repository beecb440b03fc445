/- ChkAre, ChkI0. -/
import Derived.Test.YtlappkflnlbfcaaGreatDoorPkChkType
import Derived.Test.YtlappkflnlbfcaaGreatDoorPkTypSane
import Derived.Test.YtlappkflnlbfcaaGreatDoorPkChkM
import Derived.Deep.RegionLaw
section
/- Does something hold of all? May a body be gone over in an Env? Walked (gen_ckare.py). -/
namespace Go.Proofs.YtlappkflnlbfcaaGreatDoor.Chk
open Go.RowKit Row9 Stk
set_option maxRecDepth 100000
set_option maxHeartbeats 4000000
set_option linter.unusedVariables false
theorem any_all {α : Type} (q : α → Bool) (l : List α) : (!(l.any fun a => !(q a))) = l.all q := by
  induction l with
  | nil => rfl
  | cons a l ih => rw [List.any_cons, List.all_cons, ← ih]; cases q a <;> simp
theorem any_take {α : Type} {p : α → Bool} {l : List α} {k : Nat} {a : α} (h : l[k]? = some a) (h1 : (l.take k).any p = false) : (l.take (k + 1)).any p = p a := by
  obtain ⟨hk, e⟩ := List.getElem?_eq_some_iff.1 h
  rw [List.take_succ_eq_append_getElem hk, List.any_append, h1, e]
  simp
theorem any_in {α : Type} {p : α → Bool} {l : List α} {k : Nat} {a : α} (h : l[k]? = some a) (h1 : p a = true) : l.any p = true := List.any_eq_true.2 ⟨a, List.mem_of_getElem? h, h1⟩
theorem idx_byte {L : List Int} {v : Value} {w : World} {f : FuncId} {caps : Array Value} {p : Int → Bool} (hx : Row elB w v L) (hk : Stab.FnOk Tryz.prog f) (hf : ∀ W a, a ∈ L → Below w.heap.size w W → Calls Tryz.prog f (#[.int .u8 a] ++ caps) W fun e W' => e = .returned (.bool (p a)) ∧ Below W.heap.size W W') :
    Calls Tryz.prog 87 #[v, .func (.func f) #[] caps] w fun e w' => (∃ r : Int, e = .returned (.int .i64 r) ∧ decide (0 ≤ r) = L.any p) ∧ Below w.heap.size w w' := by
  obtain ⟨A, c, rfl, hc, hm⟩ := hx.form
  have hrun := run_k hk
  obtain ⟨n, hn⟩ : ∃ n, L.length = n := ⟨_, rfl⟩
  rw [hn] at hx hc ⊢
  have N1 := Lib.hid hn
  have HX := Lib.hid hx
  have HF := Lib.hid hf
  have hbig : n ≤ 9223372036854775807 := by omega
  clear hn hx hc hm hf
  go_enter Tryz.func87, Tryz.ntmps87
  go_wp2_with fail
  go_loopw [8] (fun j' wr => ∃ k : Nat, j' = .int .i64 (k : Int) ∧ k ≤ n ∧ (L.take k).any p = false ∧ Below w.heap.size w wr) (fun j' _ => n - (intOf j').toNat)
  case atStart => exact ⟨0, by go_num, Nat.zero_le _, rfl, Below.refl _ _⟩
  case round =>
    obtain ⟨k, rfl, hk, ht, hb⟩ := hrel
    have HT := Lib.hid ht
    have HB := Lib.hid hb
    clear ht hb
    by_cases hlt : k < n
    · obtain ⟨a, ha⟩ : ∃ a, L[k]? = some a := ⟨_, List.getElem?_eq_getElem (by rw [N1.out]; exact hlt)⟩
      obtain ⟨g, off, rfl, hg, hA, hok⟩ := (HX.out.keep HB.out).at_ ha
      have c0 := hA 0 _ rfl
      simp only [Nat.add_zero] at c0
      have hq : off + k * elB.s = off + k := by show off + k * 1 = _; omega
      rw [hq] at c0
      have hin1 : (0 : Int) ≤ (k : Int) := by omega
      have hin2 : (k : Int) < (n : Int) := by omega
      have hw1 : IntKind.i64.wrap ((k : Int) + 1) = (k : Int) + 1 := IntWalk.i64_in _ (by omega)
      have HC := Lib.hid (HF.out wr a (List.mem_of_getElem? ha) HB.out)
      cases hq : p a with
      | true =>
        rw [hq] at HC
        have HQ : Hid (decide (0 ≤ (k : Int)) = L.any p) := by
          show _ = _
          rw [decide_eq_true hin1, any_in ha hq]
        clear hq ha hA hok hg
        go_wp2_with fail
        refine HC.out.mono ?_
        rintro e w1 ⟨rfl, hb⟩
        have HB1 := Lib.hid (HB.out.trans (hb.mono HB.out.size))
        clear hb c0
        go_wp2_with fail
        exact bodyPost_ret (v := .int .i64 (k : Int)) (by simp [results, Tryz.results87, go_sem]) rfl ⟨⟨_, rfl, HQ.out⟩, HB1.out⟩
      | false =>
        rw [hq] at HC
        have HQ : Hid ((L.take (k + 1)).any p = false) := by
          show _ = _
          rw [any_take ha HT.out, hq]
        clear hq ha hA hok hg
        go_wp2_with fail
        refine HC.out.mono ?_
        rintro e w1 ⟨rfl, hb⟩
        have HB1 := Lib.hid (HB.out.trans (hb.mono HB.out.size))
        clear hb c0
        go_wp2_with fail
        go_roundw
        case rel => exact ⟨k + 1, by go_num, hlt, HQ.out, HB1.out⟩
        case measure => simp [intOf]; omega
    · obtain rfl : k = n := by omega
      have HQ : Hid (decide (0 ≤ (-1 : Int)) = L.any p) := by
        show _ = _
        rw [decide_eq_false (by decide), ← HT.out, List.take_of_length_le (by rw [N1.out]; exact Nat.le_refl _)]
      go_wp2_with fail
      exact bodyPost_ret (v := .int .i64 (-1)) (by simp [results, Tryz.results87, go_sem]) rfl ⟨⟨_, rfl, HQ.out⟩, HB.out⟩
theorem con_byte {L : List Int} {v : Value} {w : World} {f : FuncId} {caps : Array Value} {p : Int → Bool} (hx : Row elB w v L) (hk : Stab.FnOk Tryz.prog f) (hf : ∀ W a, a ∈ L → Below w.heap.size w W → Calls Tryz.prog f (#[.int .u8 a] ++ caps) W fun e W' => e = .returned (.bool (p a)) ∧ Below W.heap.size W W') :
    Calls Tryz.prog 56 #[v, .func (.func f) #[] caps] w fun e w' => e = .returned (.bool (L.any p)) ∧ Below w.heap.size w w' := by
  have HC := Lib.hid (idx_byte hx hk hf)
  obtain ⟨A, c, rfl, _⟩ := hx.form
  generalize L.any p = q at HC ⊢
  generalize L.length = n at *
  clear hx hf
  go_enter Tryz.func56, Tryz.ntmps56
  go_wp2_with fail
  refine HC.out.mono ?_
  rintro e w1 ⟨⟨r, rfl, hr⟩, hb⟩
  have HR := Lib.hid hr
  have HB := Lib.hid hb
  clear hr hb HC
  go_wp2_with fail
  exact bodyPost_ret (v := .bool (decide (0 ≤ r))) (by simp [results, Tryz.results56, go_sem]) rfl ⟨by rw [HR.out], HB.out⟩
/-- Not what holds. -/
theorem not_byte {W : World} {b : Nat} {g : FuncId} {a : Int} {q : Int → Bool} (hk : Stab.FnOk Tryz.prog g) (hb : W.heap[b]? = some (.cells #[.func (.func g) #[] #[]] 111 (0, 0))) (hg : ∀ W', Below W.heap.size W W' → Calls Tryz.prog g #[.int .u8 a] W' fun e W2 => e = .returned (.bool (q a)) ∧ Below W'.heap.size W' W2) :
    Calls Tryz.prog 140 (#[.int .u8 a] ++ #[.pointer (some ⟨b, 0, none⟩)]) W fun e W' => e = .returned (.bool (!(q a))) ∧ Below W.heap.size W W' := by
  have hrun := run_k hk
  have HBN := Lib.hid (Below.refl W.heap.size W)
  have HG := Lib.hid (hg _ HBN.out)
  have c0 := (cells_at hb 0).1
  have bl := lt_of_heap hb
  simp only [List.getElem?_toArray, List.getElem?_cons_zero] at c0
  generalize q a = r at *
  clear hb hg
  show Calls _ _ #[.int .u8 a, .pointer (some ⟨b, 0, none⟩)] _ _

  go_enter Tryz.func140, Tryz.ntmps140
  go_wp2_with fail
  refine HG.out.mono ?_
  rintro e w1 ⟨rfl, hb⟩
  have HB1 := Lib.hid (HBN.out.trans (hb.mono HBN.out.size))
  clear hb HG c0 bl
  go_wp2_with fail
  exact bodyPost_ret (v := .bool (!r)) (by simp [results, Tryz.results140, go_sem]) rfl ⟨rfl, HB1.out⟩
theorem are_byte {L : List Int} {v : Value} {w : World} {g : FuncId} {q : Int → Bool} (hx : Row elB w v L) (hk : Stab.FnOk Tryz.prog g) (hg : ∀ W a, a ∈ L → Below w.heap.size w W → Calls Tryz.prog g #[.int .u8 a] W fun e W' => e = .returned (.bool (q a)) ∧ Below W.heap.size W W') :
    Calls Tryz.prog 107 #[v, .func (.func g) #[] #[]] w fun e w' => e = .returned (.bool (L.all q)) ∧ Below w.heap.size w w' := by
  have HBN := Lib.hid (below_new w (.cells #[.func (.func g) #[] #[]] 111))
  have HZ := Lib.hid (heap_new w (.cells #[.func (.func g) #[] #[]] 111))
  have HC := Lib.hid (con_byte (f := 140) (caps := #[.pointer (some ⟨w.heap.size, 0, none⟩)]) (p := fun a => !(q a)) (hx.keep HBN.out) ⟨_, Tryz.func140, by kernel_rfl, by kernel_rfl⟩ (fun W a ha hW => not_byte hk (blk HZ.out hW) (fun W' hW' => hg W' a ha ((HBN.out.trans (hW.mono HBN.out.size)).trans (hW'.mono (Nat.le_trans HBN.out.size hW.size))))))
  rw [← any_all]
  generalize (L.any fun a => !(q a)) = r at *
  obtain ⟨A, c, rfl, _⟩ := hx.form
  generalize L.length = n at *
  clear hx hg
  go_enter Tryz.func107, Tryz.ntmps107
  go_wp2_with fail
  refine HC.out.mono ?_
  rintro e w1 ⟨rfl, hb⟩
  have HB1 := Lib.hid (HBN.out.trans (hb.mono HBN.out.size))
  clear hb HC
  go_wp2_with fail
  exact bodyPost_ret (v := .bool (!r)) (by simp [results, Tryz.results107, go_sem]) rfl ⟨rfl, HB1.out⟩
theorem idx_fn {L : List FnV} {v : Value} {w : World} {f : FuncId} {caps : Array Value} {p : FnV → Bool} (hx : Row elF w v L) (hk : Stab.FnOk Tryz.prog f) (hf : ∀ W a, a ∈ L → Below w.heap.size w W → Calls Tryz.prog f (#[.agg #[a.2.1, a.2.2]] ++ caps) W fun e W' => e = .returned (.bool (p a)) ∧ Below W.heap.size W W') :
    Calls Tryz.prog 164 #[v, .func (.func f) #[] caps] w fun e w' => (∃ r : Int, e = .returned (.int .i64 r) ∧ decide (0 ≤ r) = L.any p) ∧ Below w.heap.size w w' := by
  obtain ⟨A, c, rfl, hc, hm⟩ := hx.form
  have hrun := run_k hk
  obtain ⟨n, hn⟩ : ∃ n, L.length = n := ⟨_, rfl⟩
  rw [hn] at hx hc ⊢
  have N1 := Lib.hid hn
  have HX := Lib.hid hx
  have HF := Lib.hid hf
  have hbig : n ≤ 9223372036854775807 := by omega
  clear hn hx hc hm hf
  go_enter Tryz.func164, Tryz.ntmps164
  go_wp2_with fail
  go_loopw [8] (fun j' wr => ∃ k : Nat, j' = .int .i64 (k : Int) ∧ k ≤ n ∧ (L.take k).any p = false ∧ Below w.heap.size w wr) (fun j' _ => n - (intOf j').toNat)
  case atStart => exact ⟨0, by go_num, Nat.zero_le _, rfl, Below.refl _ _⟩
  case round =>
    obtain ⟨k, rfl, hk, ht, hb⟩ := hrel
    have HT := Lib.hid ht
    have HB := Lib.hid hb
    clear ht hb
    by_cases hlt : k < n
    · obtain ⟨a, ha⟩ : ∃ a, L[k]? = some a := ⟨_, List.getElem?_eq_getElem (by rw [N1.out]; exact hlt)⟩
      obtain ⟨g, off, rfl, hg, hA, hok⟩ := (HX.out.keep HB.out).at_ ha
      have c0 := hA 0 _ rfl
      have c1 := hA 1 _ rfl
      simp only [Nat.add_zero] at c0
      obtain ⟨q0, hq⟩ : ∃ q0, off + k * elF.s = q0 := ⟨_, rfl⟩
      rw [hq] at c0 c1
      have hq : off + k * 2 = q0 := hq
      obtain ⟨P1, n1, kk1, Q1, m1, d1, e1, e2⟩ := fn_form hok
      rw [e1] at c0
      rw [e2] at c1
      have hin1 : (0 : Int) ≤ (k : Int) := by omega
      have hin2 : (k : Int) < (n : Int) := by omega
      have hw1 : IntKind.i64.wrap ((k : Int) + 1) = (k : Int) + 1 := IntWalk.i64_in _ (by omega)
      have HC := Lib.hid (HF.out wr a (List.mem_of_getElem? ha) HB.out)
      rw [e1, e2] at HC
      cases hq : p a with
      | true =>
        rw [hq] at HC
        have HQ : Hid (decide (0 ≤ (k : Int)) = L.any p) := by
          show _ = _
          rw [decide_eq_true hin1, any_in ha hq]
        clear hq ha hA hok hg
        go_wp2_with fail
        refine HC.out.mono ?_
        rintro e w1 ⟨rfl, hb⟩
        have HB1 := Lib.hid (HB.out.trans (hb.mono HB.out.size))
        clear hb c0 c1
        go_wp2_with fail
        exact bodyPost_ret (v := .int .i64 (k : Int)) (by simp [results, Tryz.results164, go_sem]) rfl ⟨⟨_, rfl, HQ.out⟩, HB1.out⟩
      | false =>
        rw [hq] at HC
        have HQ : Hid ((L.take (k + 1)).any p = false) := by
          show _ = _
          rw [any_take ha HT.out, hq]
        clear hq ha hA hok hg
        go_wp2_with fail
        refine HC.out.mono ?_
        rintro e w1 ⟨rfl, hb⟩
        have HB1 := Lib.hid (HB.out.trans (hb.mono HB.out.size))
        clear hb c0 c1
        go_wp2_with fail
        go_roundw
        case rel => exact ⟨k + 1, by go_num, hlt, HQ.out, HB1.out⟩
        case measure => simp [intOf]; omega
    · obtain rfl : k = n := by omega
      have HQ : Hid (decide (0 ≤ (-1 : Int)) = L.any p) := by
        show _ = _
        rw [decide_eq_false (by decide), ← HT.out, List.take_of_length_le (by rw [N1.out]; exact Nat.le_refl _)]
      go_wp2_with fail
      exact bodyPost_ret (v := .int .i64 (-1)) (by simp [results, Tryz.results164, go_sem]) rfl ⟨⟨_, rfl, HQ.out⟩, HB.out⟩
theorem con_fn {L : List FnV} {v : Value} {w : World} {f : FuncId} {caps : Array Value} {p : FnV → Bool} (hx : Row elF w v L) (hk : Stab.FnOk Tryz.prog f) (hf : ∀ W a, a ∈ L → Below w.heap.size w W → Calls Tryz.prog f (#[.agg #[a.2.1, a.2.2]] ++ caps) W fun e W' => e = .returned (.bool (p a)) ∧ Below W.heap.size W W') :
    Calls Tryz.prog 138 #[v, .func (.func f) #[] caps] w fun e w' => e = .returned (.bool (L.any p)) ∧ Below w.heap.size w w' := by
  have HC := Lib.hid (idx_fn hx hk hf)
  obtain ⟨A, c, rfl, _⟩ := hx.form
  generalize L.any p = q at HC ⊢
  generalize L.length = n at *
  clear hx hf
  go_enter Tryz.func138, Tryz.ntmps138
  go_wp2_with fail
  refine HC.out.mono ?_
  rintro e w1 ⟨⟨r, rfl, hr⟩, hb⟩
  have HR := Lib.hid hr
  have HB := Lib.hid hb
  clear hr hb HC
  go_wp2_with fail
  exact bodyPost_ret (v := .bool (decide (0 ≤ r))) (by simp [results, Tryz.results138, go_sem]) rfl ⟨by rw [HR.out], HB.out⟩
/-- Not what holds. -/
theorem not_fn {W : World} {b : Nat} {g : FuncId} {a : FnV} {q : FnV → Bool} (ho : FnOk W a) (hk : Stab.FnOk Tryz.prog g) (hb : W.heap[b]? = some (.cells #[.func (.func g) #[] #[]] 138 (0, 0))) (hg : ∀ W', Below W.heap.size W W' → Calls Tryz.prog g #[.agg #[a.2.1, a.2.2]] W' fun e W2 => e = .returned (.bool (q a)) ∧ Below W'.heap.size W' W2) :
    Calls Tryz.prog 139 (#[.agg #[a.2.1, a.2.2]] ++ #[.pointer (some ⟨b, 0, none⟩)]) W fun e W' => e = .returned (.bool (!(q a))) ∧ Below W.heap.size W W' := by
  have hrun := run_k hk
  have HBN := Lib.hid (below_new W (.cells #[a.2.1, a.2.2] 51))
  have HG := Lib.hid (hg _ HBN.out)
  have c0 := (cells_at hb 0).1
  have bl := lt_of_heap hb
  simp only [List.getElem?_toArray, List.getElem?_cons_zero] at c0
  generalize q a = r at *
  clear hb hg
  show Calls _ _ #[.agg #[a.2.1, a.2.2], .pointer (some ⟨b, 0, none⟩)] _ _
  obtain ⟨P1, n1, c1, Q1, m1, d1, e1, e2⟩ := fn_form ho
  rw [e1, e2] at HG HBN ⊢
  clear ho e1 e2
  go_enter Tryz.func139, Tryz.ntmps139
  go_wp2_with fail
  refine HG.out.mono ?_
  rintro e w1 ⟨rfl, hb⟩
  have HB1 := Lib.hid (HBN.out.trans (hb.mono HBN.out.size))
  clear hb HG c0 bl
  go_wp2_with fail
  exact bodyPost_ret (v := .bool (!r)) (by simp [results, Tryz.results139, go_sem]) rfl ⟨rfl, HB1.out⟩
theorem are_fn {L : List FnV} {v : Value} {w : World} {g : FuncId} {q : FnV → Bool} (hx : Row elF w v L) (hk : Stab.FnOk Tryz.prog g) (hg : ∀ W a, a ∈ L → Below w.heap.size w W → Calls Tryz.prog g #[.agg #[a.2.1, a.2.2]] W fun e W' => e = .returned (.bool (q a)) ∧ Below W.heap.size W W') :
    Calls Tryz.prog 106 #[v, .func (.func g) #[] #[]] w fun e w' => e = .returned (.bool (L.all q)) ∧ Below w.heap.size w w' := by
  have HBN := Lib.hid (below_new w (.cells #[.func (.func g) #[] #[]] 138))
  have HZ := Lib.hid (heap_new w (.cells #[.func (.func g) #[] #[]] 138))
  have HC := Lib.hid (con_fn (f := 139) (caps := #[.pointer (some ⟨w.heap.size, 0, none⟩)]) (p := fun a => !(q a)) (hx.keep HBN.out) ⟨_, Tryz.func139, by kernel_rfl, by kernel_rfl⟩ (fun W a ha hW => not_fn (elF.stay (hx.2 a ha) (HBN.out.trans (hW.mono HBN.out.size))) hk (blk HZ.out hW) (fun W' hW' => hg W' a ha ((HBN.out.trans (hW.mono HBN.out.size)).trans (hW'.mono (Nat.le_trans HBN.out.size hW.size))))))
  rw [← any_all]
  generalize (L.any fun a => !(q a)) = r at *
  obtain ⟨A, c, rfl, _⟩ := hx.form
  generalize L.length = n at *
  clear hx hg
  go_enter Tryz.func106, Tryz.ntmps106
  go_wp2_with fail
  refine HC.out.mono ?_
  rintro e w1 ⟨rfl, hb⟩
  have HB1 := Lib.hid (HBN.out.trans (hb.mono HBN.out.size))
  clear hb HC
  go_wp2_with fail
  exact bodyPost_ret (v := .bool (!r)) (by simp [results, Tryz.results106, go_sem]) rfl ⟨rfl, HB1.out⟩
theorem idx_glob {L : List (Int × Bool)} {v : Value} {w : World} {f : FuncId} {caps : Array Value} {p : (Int × Bool) → Bool} (hx : Row elGP w v L) (hk : Stab.FnOk Tryz.prog f) (hf : ∀ W a, a ∈ L → Below w.heap.size w W → Calls Tryz.prog f (#[.agg #[.int .u8 a.1, .bool a.2]] ++ caps) W fun e W' => e = .returned (.bool (p a)) ∧ Below W.heap.size W W') :
    Calls Tryz.prog 165 #[v, .func (.func f) #[] caps] w fun e w' => (∃ r : Int, e = .returned (.int .i64 r) ∧ decide (0 ≤ r) = L.any p) ∧ Below w.heap.size w w' := by
  obtain ⟨A, c, rfl, hc, hm⟩ := hx.form
  have hrun := run_k hk
  obtain ⟨n, hn⟩ : ∃ n, L.length = n := ⟨_, rfl⟩
  rw [hn] at hx hc ⊢
  have N1 := Lib.hid hn
  have HX := Lib.hid hx
  have HF := Lib.hid hf
  have hbig : n ≤ 9223372036854775807 := by omega
  clear hn hx hc hm hf
  go_enter Tryz.func165, Tryz.ntmps165
  go_wp2_with fail
  go_loopw [8] (fun j' wr => ∃ k : Nat, j' = .int .i64 (k : Int) ∧ k ≤ n ∧ (L.take k).any p = false ∧ Below w.heap.size w wr) (fun j' _ => n - (intOf j').toNat)
  case atStart => exact ⟨0, by go_num, Nat.zero_le _, rfl, Below.refl _ _⟩
  case round =>
    obtain ⟨k, rfl, hk, ht, hb⟩ := hrel
    have HT := Lib.hid ht
    have HB := Lib.hid hb
    clear ht hb
    by_cases hlt : k < n
    · obtain ⟨a, ha⟩ : ∃ a, L[k]? = some a := ⟨_, List.getElem?_eq_getElem (by rw [N1.out]; exact hlt)⟩
      obtain ⟨g, off, rfl, hg, hA, hok⟩ := (HX.out.keep HB.out).at_ ha
      have c0 := hA 0 _ rfl
      have c1 := hA 1 _ rfl
      simp only [Nat.add_zero] at c0
      obtain ⟨q0, hq⟩ : ∃ q0, off + k * elGP.s = q0 := ⟨_, rfl⟩
      rw [hq] at c0 c1
      have hq : off + k * 2 = q0 := hq
      have hin1 : (0 : Int) ≤ (k : Int) := by omega
      have hin2 : (k : Int) < (n : Int) := by omega
      have hw1 : IntKind.i64.wrap ((k : Int) + 1) = (k : Int) + 1 := IntWalk.i64_in _ (by omega)
      have HC := Lib.hid (HF.out wr a (List.mem_of_getElem? ha) HB.out)
      cases hq : p a with
      | true =>
        rw [hq] at HC
        have HQ : Hid (decide (0 ≤ (k : Int)) = L.any p) := by
          show _ = _
          rw [decide_eq_true hin1, any_in ha hq]
        clear hq ha hA hok hg
        go_wp2_with fail
        refine HC.out.mono ?_
        rintro e w1 ⟨rfl, hb⟩
        have HB1 := Lib.hid (HB.out.trans (hb.mono HB.out.size))
        clear hb c0 c1
        go_wp2_with fail
        exact bodyPost_ret (v := .int .i64 (k : Int)) (by simp [results, Tryz.results165, go_sem]) rfl ⟨⟨_, rfl, HQ.out⟩, HB1.out⟩
      | false =>
        rw [hq] at HC
        have HQ : Hid ((L.take (k + 1)).any p = false) := by
          show _ = _
          rw [any_take ha HT.out, hq]
        clear hq ha hA hok hg
        go_wp2_with fail
        refine HC.out.mono ?_
        rintro e w1 ⟨rfl, hb⟩
        have HB1 := Lib.hid (HB.out.trans (hb.mono HB.out.size))
        clear hb c0 c1
        go_wp2_with fail
        go_roundw
        case rel => exact ⟨k + 1, by go_num, hlt, HQ.out, HB1.out⟩
        case measure => simp [intOf]; omega
    · obtain rfl : k = n := by omega
      have HQ : Hid (decide (0 ≤ (-1 : Int)) = L.any p) := by
        show _ = _
        rw [decide_eq_false (by decide), ← HT.out, List.take_of_length_le (by rw [N1.out]; exact Nat.le_refl _)]
      go_wp2_with fail
      exact bodyPost_ret (v := .int .i64 (-1)) (by simp [results, Tryz.results165, go_sem]) rfl ⟨⟨_, rfl, HQ.out⟩, HB.out⟩
theorem con_glob {L : List (Int × Bool)} {v : Value} {w : World} {f : FuncId} {caps : Array Value} {p : (Int × Bool) → Bool} (hx : Row elGP w v L) (hk : Stab.FnOk Tryz.prog f) (hf : ∀ W a, a ∈ L → Below w.heap.size w W → Calls Tryz.prog f (#[.agg #[.int .u8 a.1, .bool a.2]] ++ caps) W fun e W' => e = .returned (.bool (p a)) ∧ Below W.heap.size W W') :
    Calls Tryz.prog 141 #[v, .func (.func f) #[] caps] w fun e w' => e = .returned (.bool (L.any p)) ∧ Below w.heap.size w w' := by
  have HC := Lib.hid (idx_glob hx hk hf)
  obtain ⟨A, c, rfl, _⟩ := hx.form
  generalize L.any p = q at HC ⊢
  generalize L.length = n at *
  clear hx hf
  go_enter Tryz.func141, Tryz.ntmps141
  go_wp2_with fail
  refine HC.out.mono ?_
  rintro e w1 ⟨⟨r, rfl, hr⟩, hb⟩
  have HR := Lib.hid hr
  have HB := Lib.hid hb
  clear hr hb HC
  go_wp2_with fail
  exact bodyPost_ret (v := .bool (decide (0 ≤ r))) (by simp [results, Tryz.results141, go_sem]) rfl ⟨by rw [HR.out], HB.out⟩
/-- Not what holds. -/
theorem not_glob {W : World} {b : Nat} {g : FuncId} {a : (Int × Bool)} {q : (Int × Bool) → Bool} (hk : Stab.FnOk Tryz.prog g) (hb : W.heap[b]? = some (.cells #[.func (.func g) #[] #[]] 162 (0, 0))) (hg : ∀ W', Below W.heap.size W W' → Calls Tryz.prog g #[.agg #[.int .u8 a.1, .bool a.2]] W' fun e W2 => e = .returned (.bool (q a)) ∧ Below W'.heap.size W' W2) :
    Calls Tryz.prog 142 (#[.agg #[.int .u8 a.1, .bool a.2]] ++ #[.pointer (some ⟨b, 0, none⟩)]) W fun e W' => e = .returned (.bool (!(q a))) ∧ Below W.heap.size W W' := by
  have hrun := run_k hk
  have HBN := Lib.hid (below_new W (.cells #[.int .u8 a.1, .bool a.2] 82))
  have HG := Lib.hid (hg _ HBN.out)
  have c0 := (cells_at hb 0).1
  have bl := lt_of_heap hb
  simp only [List.getElem?_toArray, List.getElem?_cons_zero] at c0
  generalize q a = r at *
  clear hb hg
  show Calls _ _ #[.agg #[.int .u8 a.1, .bool a.2], .pointer (some ⟨b, 0, none⟩)] _ _

  go_enter Tryz.func142, Tryz.ntmps142
  go_wp2_with fail
  refine HG.out.mono ?_
  rintro e w1 ⟨rfl, hb⟩
  have HB1 := Lib.hid (HBN.out.trans (hb.mono HBN.out.size))
  clear hb HG c0 bl
  go_wp2_with fail
  exact bodyPost_ret (v := .bool (!r)) (by simp [results, Tryz.results142, go_sem]) rfl ⟨rfl, HB1.out⟩
theorem are_glob {L : List (Int × Bool)} {v : Value} {w : World} {g : FuncId} {q : (Int × Bool) → Bool} (hx : Row elGP w v L) (hk : Stab.FnOk Tryz.prog g) (hg : ∀ W a, a ∈ L → Below w.heap.size w W → Calls Tryz.prog g #[.agg #[.int .u8 a.1, .bool a.2]] W fun e W' => e = .returned (.bool (q a)) ∧ Below W.heap.size W W') :
    Calls Tryz.prog 109 #[v, .func (.func g) #[] #[]] w fun e w' => e = .returned (.bool (L.all q)) ∧ Below w.heap.size w w' := by
  have HBN := Lib.hid (below_new w (.cells #[.func (.func g) #[] #[]] 162))
  have HZ := Lib.hid (heap_new w (.cells #[.func (.func g) #[] #[]] 162))
  have HC := Lib.hid (con_glob (f := 142) (caps := #[.pointer (some ⟨w.heap.size, 0, none⟩)]) (p := fun a => !(q a)) (hx.keep HBN.out) ⟨_, Tryz.func142, by kernel_rfl, by kernel_rfl⟩ (fun W a ha hW => not_glob hk (blk HZ.out hW) (fun W' hW' => hg W' a ha ((HBN.out.trans (hW.mono HBN.out.size)).trans (hW'.mono (Nat.le_trans HBN.out.size hW.size))))))
  rw [← any_all]
  generalize (L.any fun a => !(q a)) = r at *
  obtain ⟨A, c, rfl, _⟩ := hx.form
  generalize L.length = n at *
  clear hx hg
  go_enter Tryz.func109, Tryz.ntmps109
  go_wp2_with fail
  refine HC.out.mono ?_
  rintro e w1 ⟨rfl, hb⟩
  have HB1 := Lib.hid (HBN.out.trans (hb.mono HBN.out.size))
  clear hb HC
  go_wp2_with fail
  exact bodyPost_ret (v := .bool (!r)) (by simp [results, Tryz.results109, go_sem]) rfl ⟨rfl, HB1.out⟩
theorem isv_any (x : Int) (w : World) : Calls Tryz.prog 108 #[.int .u8 x] w fun e w' => e = .returned (.bool (isV x)) ∧ Below w.heap.size w w' := by
  unfold isV
  cases hx : (x == 127) <;> cases hy : (x == 126)
  all_goals (
    go_enter Tryz.func108, Tryz.ntmps108
    go_wp2_with fail
    first
    | exact bodyPost_ret (v := .bool true) (by simp [results, Tryz.results108, go_sem]) rfl ⟨rfl, Below.refl _ _⟩
    | exact bodyPost_ret (v := .bool false) (by simp [results, Tryz.results108, go_sem]) rfl ⟨rfl, Below.refl _ _⟩)
theorem isg_any (a : Int × Bool) (w : World) : Calls Tryz.prog 110 #[.agg #[.int .u8 a.1, .bool a.2]] w fun e w' => e = .returned (.bool (isV a.1)) ∧ Below w.heap.size w w' := by
  obtain ⟨v, m⟩ := a
  have HBN := Lib.hid (below_new w (.cells #[.int .u8 v, .bool m] 82))
  have HC := Lib.hid (isv_any v (w.alloc (.cells #[.int .u8 v, .bool m] 82)))
  simp only
  generalize isV v = q at *
  go_enter Tryz.func110, Tryz.ntmps110
  go_wp2_with fail
  refine HC.out.mono ?_
  rintro e w1 ⟨rfl, hb⟩
  have HB1 := Lib.hid (HBN.out.trans (hb.mono HBN.out.size))
  clear hb HC
  go_wp2_with fail
  exact bodyPost_ret (v := .bool q) (by simp [results, Tryz.results110, go_sem]) rfl ⟨rfl, HB1.out⟩
theorem sl_of {w : World} {v : Value} {l : List Int} (h : Row elB w v l) : Typ.Sl w v l := by
  obtain ⟨A, c, rfl, h2, h3⟩ := h.form
  refine ⟨A, c, rfl, h2, h3, fun h0 => ?_⟩
  obtain ⟨g, off, rfl, hg, _⟩ := byte_at h (j := 0) (List.length_pos_iff.2 h0)
  refine ⟨g, off, rfl, hg, rfl, fun j hj => ?_⟩
  obtain ⟨g', off', e, _, hc, hr⟩ := byte_at h hj
  simp only [Option.some.injEq, Addr.mk.injEq, and_true] at e
  obtain ⟨rfl, rfl⟩ := e
  first | exact hc | exact ⟨hc, hr⟩
theorem tsane_any {w : World} {a : FnV} (h : FnOk w a) (h1 : a.1.1.length ≤ 1000) (h2 : a.1.2.length ≤ 1000) : Calls Tryz.prog 105 #[.agg #[a.2.1, a.2.2]] w fun e w' => e = .returned (.bool (Typ.sane a.1.1 a.1.2)) ∧ Below w.heap.size w w' :=
  Typ.sane_any _ _ _ _ w (sl_of h.1) (sl_of h.2) (by omega) (by omega)
/-- May a body be gone over in an Env? -/
def saneE (E : EnvP) : Bool := Typ.sane [] E.results && E.types.all (fun p => Typ.sane p.1 p.2) && E.locals.all isV && E.globs.all (fun p => isV p.1)
theorem isSane_any {w : World} {V : EV} {E : EnvP} (h : EnvOk elGP w V E) (hB : FnBd E) : Calls Tryz.prog 77 #[evV V E] w fun e w' => e = .returned (.bool (saneE E)) ∧ Below w.heap.size w w' := by
  obtain ⟨⟨ts, hts, hmt⟩, hf, hg, hl, hr, _⟩ := h
  obtain ⟨types, funcs, tables, mems, globs, locals, ress⟩ := E
  obtain ⟨Pt, nt, ct, Pf, nf, cf, Pg, ng, cg, Pl, nl, cl, Pr, nr, cr⟩ := V
  simp only at hts hmt hf hg hl hr
  subst hmt
  have HBN := Lib.hid (below_new w (.cells #[.slice Pt nt ct, .slice Pf nf cf, .int .i64 tables, .int .i64 mems, .slice Pg ng cg, .slice Pl nl cl, .slice Pr nr cr] 45))
  have HX := Lib.hid (heap_new w (.cells #[.slice Pt nt ct, .slice Pf nf cf, .int .i64 tables, .int .i64 mems, .slice Pg ng cg, .slice Pl nl cl, .slice Pr nr cr] 45))
  have HTS := Lib.hid (hts.keep HBN.out)
  have HG := Lib.hid (hg.keep HBN.out)
  have HL := Lib.hid (hl.keep HBN.out)
  have HR := Lib.hid (hr.keep HBN.out)
  have HTB : Hid (∀ p ∈ ts, p.1.1.length ≤ 1000 ∧ p.1.2.length ≤ 1000) := fun p hp => hB.1 p.1 (List.mem_map_of_mem hp)
  have HRB : Hid (ress.length ≤ 1000) := hB.2
  have HE : Hid (saneE ⟨ts.map (·.1), funcs, tables, mems, globs, locals, ress⟩ = (Typ.sane [] ress && ts.all (fun p => Typ.sane p.1.1 p.1.2) && locals.all isV && globs.all (fun p => isV p.1))) := by
    show _ = _
    unfold saneE
    simp only [List.all_map]
    rfl
  rw [HE.out]
  rw [show evV ⟨Pt, nt, ct, Pf, nf, cf, Pg, ng, cg, Pl, nl, cl, Pr, nr, cr⟩ ⟨ts.map (·.1), funcs, tables, mems, globs, locals, ress⟩ = .agg #[.slice Pt nt ct, .slice Pf nf cf, .int .i64 tables, .int .i64 mems, .slice Pg ng cg, .slice Pl nl cl, .slice Pr nr cr] from rfl]
  obtain ⟨q1, hq1⟩ : ∃ q, Typ.sane [] ress = q := ⟨_, rfl⟩
  obtain ⟨q2, hq2⟩ : ∃ q, ts.all (fun p => Typ.sane p.1.1 p.1.2) = q := ⟨_, rfl⟩
  obtain ⟨q3, hq3⟩ : ∃ q, locals.all isV = q := ⟨_, rfl⟩
  obtain ⟨q4, hq4⟩ : ∃ q, globs.all (fun p => isV p.1) = q := ⟨_, rfl⟩
  have H1 := Lib.hid (Typ.sane_any (.slice none 0 0) (.slice Pr nr cr) [] ress _ (Typ.Sl.nil _) (sl_of HR.out) (by simp) (by have := HRB.out; omega))
  have H2 := Lib.hid (fun W (hW : Below (w.alloc (.cells #[.slice Pt nt ct, .slice Pf nf cf, .int .i64 tables, .int .i64 mems, .slice Pg ng cg, .slice Pl nl cl, .slice Pr nr cr] 45)).heap.size (w.alloc (.cells #[.slice Pt nt ct, .slice Pf nf cf, .int .i64 tables, .int .i64 mems, .slice Pg ng cg, .slice Pl nl cl, .slice Pr nr cr] 45)) W) => are_fn (g := 105) (q := fun p => Typ.sane p.1.1 p.1.2) (HTS.out.keep hW) ⟨_, Tryz.func105, by kernel_rfl, by kernel_rfl⟩ (fun W' a ha hW' => tsane_any ((HTS.out.keep (hW.trans (hW'.mono hW.size))).2 a ha) (HTB.out a ha).1 (HTB.out a ha).2))
  have H3 := Lib.hid (fun W (hW : Below (w.alloc (.cells #[.slice Pt nt ct, .slice Pf nf cf, .int .i64 tables, .int .i64 mems, .slice Pg ng cg, .slice Pl nl cl, .slice Pr nr cr] 45)).heap.size (w.alloc (.cells #[.slice Pt nt ct, .slice Pf nf cf, .int .i64 tables, .int .i64 mems, .slice Pg ng cg, .slice Pl nl cl, .slice Pr nr cr] 45)) W) => are_byte (g := 108) (q := isV) (HL.out.keep hW) ⟨_, Tryz.func108, by kernel_rfl, by kernel_rfl⟩ (fun W' a ha hW' => isv_any a W'))
  have H4 := Lib.hid (fun W (hW : Below (w.alloc (.cells #[.slice Pt nt ct, .slice Pf nf cf, .int .i64 tables, .int .i64 mems, .slice Pg ng cg, .slice Pl nl cl, .slice Pr nr cr] 45)).heap.size (w.alloc (.cells #[.slice Pt nt ct, .slice Pf nf cf, .int .i64 tables, .int .i64 mems, .slice Pg ng cg, .slice Pl nl cl, .slice Pr nr cr] 45)) W) => are_glob (g := 110) (q := fun p => isV p.1) (HG.out.keep hW) ⟨_, Tryz.func110, by kernel_rfl, by kernel_rfl⟩ (fun W' a ha hW' => isg_any a W'))
  rw [hq1] at H1
  rw [hq2] at H2
  rw [hq3] at H3
  rw [hq4] at H4
  rw [hq1, hq2, hq3, hq4]
  clear hts hf hg hl hr hB hq1 hq2 hq3 hq4 HTS HG HL HR HTB HE
  have b0 := (cells_at HX.out 0).1
  have b4 := (cells_at HX.out 4).1
  have b5 := (cells_at HX.out 5).1
  have b6 := (cells_at HX.out 6).1
  simp only [List.getElem?_toArray, List.getElem?_cons_zero, List.getElem?_cons_succ] at b0 b4 b5 b6
  go_enter Tryz.func77, Tryz.ntmps77
  go_wp2_with fail
  clear b0 b4 b5 b6
  generalize w.alloc (.cells #[.slice Pt nt ct, .slice Pf nf cf, .int .i64 tables, .int .i64 mems, .slice Pg ng cg, .slice Pl nl cl, .slice Pr nr cr] 45) = w0 at *
  obtain ⟨y, hy⟩ : ∃ y, w.heap.size = y := ⟨_, rfl⟩
  rw [hy] at HX
  simp only [hy]
  clear hy
  refine H1.out.mono ?_
  rintro e w1 ⟨rfl, hb1⟩
  have HB1 := Lib.hid hb1
  clear hb1
  have b0 := (cells_at (blk HX.out HB1.out) 0).1
  simp only [List.getElem?_toArray, List.getElem?_cons_zero] at b0
  cases q1 with
  | false =>
    go_wp2_with fail
    exact bodyPost_ret (v := .bool false) (by simp [results, Tryz.results77, go_sem]) rfl ⟨rfl, HBN.out.trans (HB1.out.mono HBN.out.size)⟩
  | true =>
    go_wp2_with fail
    clear b0
    refine (H2.out w1 HB1.out).mono ?_
    rintro e w2 ⟨rfl, hb2⟩
    have HB2 := Lib.hid (HB1.out.trans (hb2.mono HB1.out.size))
    clear hb2
    have b5 := (cells_at (blk HX.out HB2.out) 5).1
    simp only [List.getElem?_toArray, List.getElem?_cons_zero, List.getElem?_cons_succ] at b5
    cases q2 with
    | false =>
      go_wp2_with fail
      exact bodyPost_ret (v := .bool false) (by simp [results, Tryz.results77, go_sem]) rfl ⟨rfl, HBN.out.trans (HB2.out.mono HBN.out.size)⟩
    | true =>
      go_wp2_with fail
      clear b5
      refine (H3.out w2 HB2.out).mono ?_
      rintro e w3 ⟨rfl, hb3⟩
      have HB3 := Lib.hid (HB2.out.trans (hb3.mono HB2.out.size))
      clear hb3
      have b4 := (cells_at (blk HX.out HB3.out) 4).1
      simp only [List.getElem?_toArray, List.getElem?_cons_zero, List.getElem?_cons_succ] at b4
      cases q3 with
      | false =>
        go_wp2_with fail
        exact bodyPost_ret (v := .bool false) (by simp [results, Tryz.results77, go_sem]) rfl ⟨rfl, HBN.out.trans (HB3.out.mono HBN.out.size)⟩
      | true =>
        go_wp2_with fail
        clear b4
        refine (H4.out w3 HB3.out).mono ?_
        rintro e w4 ⟨rfl, hb4⟩
        have HB4 := Lib.hid (HB3.out.trans (hb4.mono HB3.out.size))
        clear hb4
        go_wp2_with fail
        exact bodyPost_ret (v := .bool q4) (by simp [results, Tryz.results77, go_sem]) rfl ⟨rfl, HBN.out.trans (HB4.out.mono HBN.out.size)⟩
end Go.Proofs.YtlappkflnlbfcaaGreatDoor.Chk
end

section
/- What is named by a number, else, end: walked (gen_ckm2.py). -/
namespace Go.Proofs.YtlappkflnlbfcaaGreatDoor.Chk
open Go.RowKit Row9 Stk
set_option maxRecDepth 100000
set_option maxHeartbeats 8000000
set_option linter.unusedVariables false
theorem run_fldG0 (a : Int) (b : Bool) (W : World) : (Instr.field 82 (.agg #[.int .u8 a, .bool b]) 0).run Tryz.prog W = .ok (.int .u8 a) W := by rfl
theorem run_fldC1 (a c : Int) (P : Option Addr) (n m : Nat) (d : Bool) (W : World) : (Instr.field 72 (.agg #[.int .i64 a, .slice P n m, .int .i64 c, .bool d]) 1).run Tryz.prog W = .ok (.slice P n m) W := by rfl
theorem index_12 {w : World} {k : Nat} {V : EV} {E : EnvP} {s : Stk} {A B K : Int} {lab : Value} (h : Cx w k V E (.ok s)) (hb : Bd (.ok s) 300000) (hf : FnBd E) (hA : w64 A) : Calls Tryz.prog 95 #[.pointer (some ⟨k, 0, none⟩), .agg #[.int .i64 12, .int .i64 A, .int .i64 B, .int .u64 K, lab]] w (CkEnds w k V E (indexR E 12 A s) (.tuple #[])) := by
  have HA := Lib.hid hA
  have HFB := Lib.hid hf
  clear hf hA
  show Calls _ _ _ _ (CkEnds w k V E (killR (wantR (labelL A (.ok s)) (labelR A (.ok s)))) (.tuple #[]))
  have HCK := Lib.hid h
  have HB0 := Lib.hid hb
  have HBT : Hid (But k w (w.alloc (.cells #[.int .i64 12, .int .i64 A, .int .i64 B, .int .u64 K, lab] 33))) := But.of_below (below_new w (.cells #[.int .i64 12, .int .i64 A, .int .i64 B, .int .u64 K, lab] 33))
  have HCK := Lib.hid (h.keep (below_new w (.cells #[.int .i64 12, .int .i64 A, .int .i64 B, .int .u64 K, lab] 33)))
  have HX := Lib.hid (heap_new w (.cells #[.int .i64 12, .int .i64 A, .int .i64 B, .int .u64 K, lab] 33))
  have HSZ : Hid ((w.alloc (.cells #[.int .i64 12, .int .i64 A, .int .i64 B, .int .u64 K, lab] 33)).heap.size = w.heap.size + 1) := size_new _ _
  have HYK : Hid (w.heap.size ≠ k) := Lib.hid (by have := h.lt; omega)
  clear h hb
  obtain ⟨b0, b1, b4⟩ := cells5 HX.out
  have bl := lt_of_heap HX.out
  go_enter Tryz.func95, Tryz.ntmps95
  go_wp2_with fail
  clear b0 b1 b4 bl
  generalize w.alloc (.cells #[.int .i64 12, .int .i64 A, .int .i64 B, .int .u64 K, lab] 33) = u0 at *
  obtain ⟨y, hy⟩ : ∃ y, w.heap.size = y := ⟨_, rfl⟩
  rw [hy] at HX HYK HSZ
  simp only [hy]
  clear hy
  refine (label_ck HCK.out (HB0.out.mono (by omega)) HA.out).mono ?_
  rintro e w1 ⟨P1, n1, c1, rfl, hl, hc, hbt⟩
  have HX := Lib.hid ((hbt.block y (lt_of_heap HX.out) HYK.out).trans HX.out)
  have HBT := Lib.hid (HBT.out.trans hbt)
  have HCK := Lib.hid hc
  have HLb := Lib.hid hl
  clear hc hbt hl
  go_wp2_with fail
  refine (want_ck HCK.out (HB0.out.label.mono (by omega)) HLb.out (l1 _ _)).mono ?_
  rintro e w2 ⟨rfl, hc, hbt⟩
  have HLb := Lib.hid (rowB_apart HLb.out HCK.out.nobb hbt)
  have HX := Lib.hid ((hbt.block y (lt_of_heap HX.out) HYK.out).trans HX.out)
  have HBT := Lib.hid (HBT.out.trans hbt)
  have HCK := Lib.hid hc
  clear hc hbt
  go_wp2_with fail
  refine (kill_ck HCK.out (HB0.out.label.want.mono (by omega))).mono ?_
  rintro e w3 ⟨rfl, hc, hbt⟩
  have HLb := Lib.hid (rowB_apart HLb.out HCK.out.nobb hbt)
  have HX := Lib.hid ((hbt.block y (lt_of_heap HX.out) HYK.out).trans HX.out)
  have HBT := Lib.hid (HBT.out.trans hbt)
  have HCK := Lib.hid hc
  clear hc hbt
  go_wp2_with fail
  exact bodyPost_end (v := .tuple #[]) (by simp [results, Tryz.results95, go_sem]) rfl ⟨rfl, HCK.out, HBT.out⟩
theorem index_13 {w : World} {k : Nat} {V : EV} {E : EnvP} {s : Stk} {A B K : Int} {lab : Value} (h : Cx w k V E (.ok s)) (hb : Bd (.ok s) 300000) (hf : FnBd E) (hA : w64 A) : Calls Tryz.prog 95 #[.pointer (some ⟨k, 0, none⟩), .agg #[.int .i64 13, .int .i64 A, .int .i64 B, .int .u64 K, lab]] w (CkEnds w k V E (indexR E 13 A s) (.tuple #[])) := by
  have HA := Lib.hid hA
  have HFB := Lib.hid hf
  clear hf hA
  show Calls _ _ _ _ (CkEnds w k V E (pushR (labelL A (.ok s)) (wantR (labelL A (.ok s)) (wantR [127] (labelR A (.ok s))))) (.tuple #[]))
  have HCK := Lib.hid h
  have HB0 := Lib.hid hb
  have HBT : Hid (But k w (w.alloc (.cells #[.int .i64 13, .int .i64 A, .int .i64 B, .int .u64 K, lab] 33))) := But.of_below (below_new w (.cells #[.int .i64 13, .int .i64 A, .int .i64 B, .int .u64 K, lab] 33))
  have HCK := Lib.hid (h.keep (below_new w (.cells #[.int .i64 13, .int .i64 A, .int .i64 B, .int .u64 K, lab] 33)))
  have HX := Lib.hid (heap_new w (.cells #[.int .i64 13, .int .i64 A, .int .i64 B, .int .u64 K, lab] 33))
  have HSZ : Hid ((w.alloc (.cells #[.int .i64 13, .int .i64 A, .int .i64 B, .int .u64 K, lab] 33)).heap.size = w.heap.size + 1) := size_new _ _
  have HYK : Hid (w.heap.size ≠ k) := Lib.hid (by have := h.lt; omega)
  clear h hb
  obtain ⟨b0, b1, b4⟩ := cells5 HX.out
  have bl := lt_of_heap HX.out
  go_enter Tryz.func95, Tryz.ntmps95
  go_wp2_with fail
  clear b0 b1 b4 bl
  generalize w.alloc (.cells #[.int .i64 13, .int .i64 A, .int .i64 B, .int .u64 K, lab] 33) = u0 at *
  obtain ⟨y, hy⟩ : ∃ y, w.heap.size = y := ⟨_, rfl⟩
  rw [hy] at HX HYK HSZ
  simp only [hy]
  clear hy
  refine (label_ck HCK.out (HB0.out.mono (by omega)) HA.out).mono ?_
  rintro e w1 ⟨P1, n1, c1, rfl, hl, hc, hbt⟩
  have HX := Lib.hid ((hbt.block y (lt_of_heap HX.out) HYK.out).trans HX.out)
  have HBT := Lib.hid (HBT.out.trans hbt)
  have HCK := Lib.hid hc
  have HLb := Lib.hid hl
  clear hc hbt hl
  go_wp2_with fail
  have HT := Lib.hid (below_new w1 (.cells #[.int .u8 127] 5))
  have HLb := Lib.hid (HLb.out.keep HT.out)
  have HX := Lib.hid (blk HX.out HT.out)
  have HBT := Lib.hid (HBT.out.trans (But.of_below HT.out))
  have HCK := Lib.hid (HCK.out.keep HT.out)
  have HL := Lib.hid (row_lit1 w1 127 ⟨by omega, by omega⟩)
  generalize w1.alloc (.cells #[.int .u8 127] 5) = u2 at *
  clear HT
  refine (want_ck HCK.out (HB0.out.label.mono (by omega)) HL.out (by simp)).mono ?_
  rintro e w3 ⟨rfl, hc, hbt⟩
  have HLb := Lib.hid (rowB_apart HLb.out HCK.out.nobb hbt)
  have HL := Lib.hid (rowB_apart HL.out HCK.out.nobb hbt)
  have HX := Lib.hid ((hbt.block y (lt_of_heap HX.out) HYK.out).trans HX.out)
  have HBT := Lib.hid (HBT.out.trans hbt)
  have HCK := Lib.hid hc
  clear hc hbt
  go_wp2_with fail
  clear HL
  refine (want_ck HCK.out (HB0.out.label.want.mono (by omega)) HLb.out (l1 _ _)).mono ?_
  rintro e w4 ⟨rfl, hc, hbt⟩
  have HLb := Lib.hid (rowB_apart HLb.out HCK.out.nobb hbt)
  have HX := Lib.hid ((hbt.block y (lt_of_heap HX.out) HYK.out).trans HX.out)
  have HBT := Lib.hid (HBT.out.trans hbt)
  have HCK := Lib.hid hc
  clear hc hbt
  go_wp2_with fail
  refine (push_ck HCK.out (HB0.out.label.want.want.mono (by omega)) HLb.out (l1 _ _)).mono ?_
  rintro e w5 ⟨rfl, hc, hbt⟩
  have HLb := Lib.hid (rowB_apart HLb.out HCK.out.nobb hbt)
  have HX := Lib.hid ((hbt.block y (lt_of_heap HX.out) HYK.out).trans HX.out)
  have HBT := Lib.hid (HBT.out.trans hbt)
  have HCK := Lib.hid hc
  clear hc hbt
  go_wp2_with fail
  exact bodyPost_end (v := .tuple #[]) (by simp [results, Tryz.results95, go_sem]) rfl ⟨rfl, HCK.out, HBT.out⟩
end Go.Proofs.YtlappkflnlbfcaaGreatDoor.Chk
end
