/- ModSFCode, ModSFData, ModSFFuncType, ModLd. -/
import Derived.Test.YtffegkjlgeblbaaGreatDoorPkModSFElem
import Derived.Test.YtffegkjlgeblbaaGreatDoorStabAll
import Derived.Test.YtffegkjlgeblbaaGreatDoorPkBodPut
section
/- Are two lists of Code the same, by the program: walked. -/
namespace Go.Proofs.YtffegkjlgeblbaaGreatDoor.Mdl
open Go.RowKit Ints Typ Ins
set_option maxRecDepth 100000
set_option maxHeartbeats 4000000
set_option linter.unusedVariables false
theorem pqf_Code {a b : List CodT} {A B : Option Addr} {n c d : Nat} {w : World} (hn1 : a.length = n) (hn2 : b.length = n) (hbig : n ≤ 100000) (ha : RowG.Row elC w (.slice A n c) a) (hb : RowG.Row elC w (.slice B n d) b)
    (hone : ∀ W p q, Below w.heap.size w W → p ∈ a → q ∈ b → elC.ok W p → elC.ok W q → Calls Tryz.prog 59 #[(fun p : CodT => .agg #[p.1.2, p.2.2]) p, (fun p : CodT => .agg #[p.1.2, p.2.2]) q] W fun e w' => (∃ r : Bool, e = .returned (.bool r) ∧ (r = true ↔ (fun p : CodT => (p.1.1, Bod.insL p.2.1)) p = (fun p : CodT => (p.1.1, Bod.insL p.2.1)) q)) ∧ Below W.heap.size W w') :
    Calls Tryz.prog 58 #[.slice A n c, .slice B n d, .func (.func 59) #[] #[]] w fun e w' => (∃ r : Bool, e = .returned (.bool r) ∧ (r = true ↔ a.map (fun p : CodT => (p.1.1, Bod.insL p.2.1)) = b.map (fun p : CodT => (p.1.1, Bod.insL p.2.1)))) ∧ Below w.heap.size w w' := by
  have hrun : ∀ args W, (callFunc 59 args).run Tryz.prog W = .ok (.enter 59 args) W := fun args W => Stab.run_enter Tryz.func59 (by kernel_rfl) rfl args W
  have HN := Lib.hid hn1
  have HM := Lib.hid hn2
  have HA := Lib.hid ha
  have HB := Lib.hid hb
  have HONE := Lib.hid hone
  clear hn1 hn2 ha hb hone
  go_enter Tryz.func58, Tryz.ntmps58
  go_wp2_with fail
  go_loopw [17] (fun j' wr => ∃ k : Nat, j' = .int .i64 (k : Int) ∧ k ≤ n ∧ (∀ i, i < k → (a.map (fun p : CodT => (p.1.1, Bod.insL p.2.1)))[i]? = (b.map (fun p : CodT => (p.1.1, Bod.insL p.2.1)))[i]?) ∧ Below w.heap.size w wr) (fun j' _ => n - (intOf j').toNat)
  case atStart => exact ⟨0, by go_num, Nat.zero_le _, fun i hi => absurd hi (by omega), Below.refl _ _⟩
  case round =>
    obtain ⟨k, rfl, hk, ht, hW⟩ := hrel
    have HALL := Lib.hid ht
    have HW := Lib.hid hW
    clear ht hW
    by_cases hlt : k < n
    · obtain ⟨p1, hx⟩ : ∃ y, a[k]? = some y := ⟨_, List.getElem?_eq_getElem (by rw [HN.out]; exact hlt)⟩
      obtain ⟨p2, hy⟩ : ∃ y, b[k]? = some y := ⟨_, List.getElem?_eq_getElem (by rw [HM.out]; exact hlt)⟩
      have HX : Hid ((a.map (fun p : CodT => (p.1.1, Bod.insL p.2.1)))[k]? = some ((fun p : CodT => (p.1.1, Bod.insL p.2.1)) p1)) := Lib.hid (by rw [List.getElem?_map, hx]; rfl)
      have HY : Hid ((b.map (fun p : CodT => (p.1.1, Bod.insL p.2.1)))[k]? = some ((fun p : CodT => (p.1.1, Bod.insL p.2.1)) p2)) := Lib.hid (by rw [List.getElem?_map, hy]; rfl)
      have HP1 := Lib.hid (List.mem_of_getElem? hx)
      have HP2 := Lib.hid (List.mem_of_getElem? hy)
      obtain ⟨g1, f1, rfl, hg1, hA1, hok1⟩ := (HA.out.keep HW.out).at_ hx
      obtain ⟨g2, f2, rfl, hg2, hA2, hok2⟩ := (HB.out.keep HW.out).at_ hy
      rw [show (elC.s) = 2 from rfl] at hA1 hA2
      have q0 := hA1 0 p1.1.2 rfl
      have q1 := hA1 1 p1.2.2 rfl
      have r0 := hA2 0 p2.1.2 rfl
      have r1 := hA2 1 p2.2.2 rfl
      rw [Nat.add_zero] at q0 r0
      have hO1 : elC.ok wr p1 := hok1
      have hO2 : elC.ok wr p2 := hok2
      have HONE2 := Lib.hid fun W (h : Below wr.heap.size wr W) => HONE.out W p1 p2 (HW.out.trans (h.mono HW.out.size)) HP1.out HP2.out (elC.stay hO1 h) (elC.stay hO2 h)
      clear hx hy hA1 hA2 hO1 hO2 hg1 hg2
      obtain ⟨v1, hv1⟩ : ∃ v, (fun p : CodT => (p.1.1, Bod.insL p.2.1)) p1 = v := ⟨_, rfl⟩
      obtain ⟨v2, hv2⟩ : ∃ v, (fun p : CodT => (p.1.1, Bod.insL p.2.1)) p2 = v := ⟨_, rfl⟩
      dsimp only at HX HY hv1 hv2
      rw [hv1] at HX HONE2
      rw [hv2] at HY HONE2
      clear hv1 hv2 HP1 HP2
      obtain ⟨⟨x01, c01⟩, ⟨x11, c11⟩⟩ := p1
      obtain ⟨⟨⟨A01, k01, e01, _⟩, _⟩, ⟨⟨A11, k11, e11, _⟩, _⟩⟩ := id hok1
      simp only at e01 e11
      obtain ⟨n01, hn01⟩ : ∃ m, x01.length = m := ⟨_, rfl⟩
      obtain ⟨n11, hn11⟩ : ∃ m, x11.length = m := ⟨_, rfl⟩
      rw [hn01] at e01
      rw [hn11] at e11
      subst e01 e11
      obtain ⟨⟨x02, c02⟩, ⟨x12, c12⟩⟩ := p2
      obtain ⟨⟨⟨A02, k02, e02, _⟩, _⟩, ⟨⟨A12, k12, e12, _⟩, _⟩⟩ := id hok2
      simp only at e02 e12
      obtain ⟨n02, hn02⟩ : ∃ m, x02.length = m := ⟨_, rfl⟩
      obtain ⟨n12, hn12⟩ : ∃ m, x12.length = m := ⟨_, rfl⟩
      rw [hn02] at e02
      rw [hn12] at e12
      subst e02 e12
      have hin1 : (0 : Int) ≤ (k : Int) := by omega
      have hin2 : (k : Int) < (n : Int) := by omega
      have hw1 : IntKind.i64.wrap ((k : Int) + 1) = (k : Int) + 1 := IntWalk.i64_in _ (by omega)
      have hb1 := (Below.refl wr.heap.size wr).alloc (Nat.le_refl _) (.cells #[.slice A01 n01 k01, .slice A11 n11 k11] 90)
      have hb2 := hb1.alloc hb1.size (.cells #[.slice A02 n02 k02, .slice A12 n12 k12] 90)
      have HB2 := Lib.hid hb2
      have HCS := Lib.hid (HONE2.out _ hb2)
      have r0' := Lib.cell?_alloc_some (.cells #[.slice A01 n01 k01, .slice A11 n11 k11] 90) r0
      have r1' := Lib.cell?_alloc_some (.cells #[.slice A01 n01 k01, .slice A11 n11 k11] 90) r1
      clear hb1 hb2 HONE2 hok1 hok2
      go_wp2_with fail
      refine HCS.out.mono ?_
      rintro e w1 ⟨⟨r, rfl, hr⟩, hb⟩
      have HW1 := Lib.hid (HW.out.trans ((HB2.out.trans (hb.mono HB2.out.size)).mono HW.out.size))
      have HR := Lib.hid hr
      clear hb hr HCS HB2 q0 r0 r0' q1 r1 r1'
      cases r with
      | false =>
        have HQ : Hid (false = true ↔ a.map (fun p : CodT => (p.1.1, Bod.insL p.2.1)) = b.map (fun p : CodT => (p.1.1, Bod.insL p.2.1))) := ⟨fun h => (by cases h), fun h => by
          have h1 := HX.out
          rw [h, HY.out] at h1
          exact HR.out.2 (Option.some.inj h1).symm⟩
        go_wp2_with fail
        exact bodyPost_ret (v := .bool false) (by simp [results, Tryz.results58, go_sem]) rfl ⟨⟨_, rfl, HQ.out⟩, HW1.out⟩
      | true =>
        have HQ : Hid (∀ i, i < k + 1 → (a.map (fun p : CodT => (p.1.1, Bod.insL p.2.1)))[i]? = (b.map (fun p : CodT => (p.1.1, Bod.insL p.2.1)))[i]?) := fun i hi => by
          by_cases e : i = k
          · subst e
            rw [HX.out, HY.out, HR.out.1 rfl]
          · exact HALL.out i (by omega)
        go_wp2_with fail
        go_roundw
        case rel => exact ⟨k + 1, by go_num, hlt, HQ.out, HW1.out⟩
        case measure => simp [intOf]; omega
    · have hkn : k = n := by omega
      subst hkn
      have HQ : Hid (true = true ↔ a.map (fun p : CodT => (p.1.1, Bod.insL p.2.1)) = b.map (fun p : CodT => (p.1.1, Bod.insL p.2.1))) := ⟨fun _ => by
        apply List.ext_getElem?
        intro i
        by_cases hi : i < k
        · exact HALL.out i hi
        · rw [List.getElem?_eq_none (by rw [List.length_map, HN.out]; omega), List.getElem?_eq_none (by rw [List.length_map, HM.out]; omega)], fun _ => rfl⟩
      go_wp2_with fail
      exact bodyPost_ret (v := .bool true) (by simp [results, Tryz.results58, go_sem]) rfl ⟨by first | exact ⟨_, rfl, HQ.out⟩ | exact .inr ⟨rfl, by have h := HQ.out; simpa using h⟩, HW.out⟩
theorem peq_Code {a b : List CodT} {u v : Value} {w : World} (hbig : a.length ≤ 100000) (ha : RowG.Row elC w u a) (hb : RowG.Row elC w v b)
    (hone : ∀ W p q, Below w.heap.size w W → p ∈ a → q ∈ b → elC.ok W p → elC.ok W q → Calls Tryz.prog 59 #[(fun p : CodT => .agg #[p.1.2, p.2.2]) p, (fun p : CodT => .agg #[p.1.2, p.2.2]) q] W fun e w' => (∃ r : Bool, e = .returned (.bool r) ∧ (r = true ↔ (fun p : CodT => (p.1.1, Bod.insL p.2.1)) p = (fun p : CodT => (p.1.1, Bod.insL p.2.1)) q)) ∧ Below W.heap.size W w') :
    Calls Tryz.prog 58 #[u, v, .func (.func 59) #[] #[]] w fun e w' => (∃ r : Bool, e = .returned (.bool r) ∧ (r = true ↔ a.map (fun p : CodT => (p.1.1, Bod.insL p.2.1)) = b.map (fun p : CodT => (p.1.1, Bod.insL p.2.1)))) ∧ Below w.heap.size w w' := by
  obtain ⟨A, c, rfl⟩ := row_len ha
  obtain ⟨B, d, rfl⟩ := row_len hb
  by_cases h : a.length = b.length
  · rw [← h] at hb ⊢
    exact pqf_Code rfl h.symm hbig ha hb hone
  · have HQ : Hid (false = true ↔ a.map (fun p : CodT => (p.1.1, Bod.insL p.2.1)) = b.map (fun p : CodT => (p.1.1, Bod.insL p.2.1))) := ⟨fun h => (by cases h), fun e => by
      have := congrArg List.length e
      rw [List.length_map, List.length_map] at this
      exact absurd this h⟩
    obtain ⟨n, hn⟩ : ∃ n, a.length = n := ⟨_, rfl⟩
    obtain ⟨m, hm⟩ : ∃ n, b.length = n := ⟨_, rfl⟩
    rw [hn, hm] at h ⊢
    have t1 : ((n : Int) != (m : Int)) = true := by simp; omega
    have t1' : (n != m) = true := by simpa using h
    clear h hn hm ha hb hone hbig
    go_enter Tryz.func58, Tryz.ntmps58
    go_wp2_with fail
    exact bodyPost_ret (v := .bool false) (by simp [results, Tryz.results58, go_sem]) rfl ⟨⟨_, rfl, HQ.out⟩, Below.refl _ _⟩
end Go.Proofs.YtffegkjlgeblbaaGreatDoor.Mdl
end

section
/- Are two lists of Data the same, by the program: walked. -/
namespace Go.Proofs.YtffegkjlgeblbaaGreatDoor.Mdl
open Go.RowKit Ints Typ Ins
set_option maxRecDepth 100000
set_option maxHeartbeats 4000000
set_option linter.unusedVariables false
theorem pqf_Data {a b : List DatT} {A B : Option Addr} {n c d : Nat} {w : World} (hn1 : a.length = n) (hn2 : b.length = n) (hbig : n ≤ 100000) (ha : RowG.Row elD w (.slice A n c) a) (hb : RowG.Row elD w (.slice B n d) b)
    (hone : ∀ W p q, Below w.heap.size w W → p ∈ a → q ∈ b → elD.ok W p → elD.ok W q → Calls Tryz.prog 61 #[(fun p : DatT => .agg #[.int .i64 p.1.1.op, .int .i64 p.1.1.A, .int .i64 p.1.1.B, .int .u64 p.1.1.K, p.1.2, p.2.2]) p, (fun p : DatT => .agg #[.int .i64 p.1.1.op, .int .i64 p.1.1.A, .int .i64 p.1.1.B, .int .u64 p.1.1.K, p.1.2, p.2.2]) q] W fun e w' => (∃ r : Bool, e = .returned (.bool r) ∧ (r = true ↔ (fun p : DatT => (p.1.1, p.2.1)) p = (fun p : DatT => (p.1.1, p.2.1)) q)) ∧ Below W.heap.size W w') :
    Calls Tryz.prog 60 #[.slice A n c, .slice B n d, .func (.func 61) #[] #[]] w fun e w' => (∃ r : Bool, e = .returned (.bool r) ∧ (r = true ↔ a.map (fun p : DatT => (p.1.1, p.2.1)) = b.map (fun p : DatT => (p.1.1, p.2.1)))) ∧ Below w.heap.size w w' := by
  have hrun : ∀ args W, (callFunc 61 args).run Tryz.prog W = .ok (.enter 61 args) W := fun args W => Stab.run_enter Tryz.func61 (by kernel_rfl) rfl args W
  have HN := Lib.hid hn1
  have HM := Lib.hid hn2
  have HA := Lib.hid ha
  have HB := Lib.hid hb
  have HONE := Lib.hid hone
  clear hn1 hn2 ha hb hone
  go_enter Tryz.func60, Tryz.ntmps60
  go_wp2_with fail
  go_loopw [17] (fun j' wr => ∃ k : Nat, j' = .int .i64 (k : Int) ∧ k ≤ n ∧ (∀ i, i < k → (a.map (fun p : DatT => (p.1.1, p.2.1)))[i]? = (b.map (fun p : DatT => (p.1.1, p.2.1)))[i]?) ∧ Below w.heap.size w wr) (fun j' _ => n - (intOf j').toNat)
  case atStart => exact ⟨0, by go_num, Nat.zero_le _, fun i hi => absurd hi (by omega), Below.refl _ _⟩
  case round =>
    obtain ⟨k, rfl, hk, ht, hW⟩ := hrel
    have HALL := Lib.hid ht
    have HW := Lib.hid hW
    clear ht hW
    by_cases hlt : k < n
    · obtain ⟨p1, hx⟩ : ∃ y, a[k]? = some y := ⟨_, List.getElem?_eq_getElem (by rw [HN.out]; exact hlt)⟩
      obtain ⟨p2, hy⟩ : ∃ y, b[k]? = some y := ⟨_, List.getElem?_eq_getElem (by rw [HM.out]; exact hlt)⟩
      have HX : Hid ((a.map (fun p : DatT => (p.1.1, p.2.1)))[k]? = some ((fun p : DatT => (p.1.1, p.2.1)) p1)) := Lib.hid (by rw [List.getElem?_map, hx]; rfl)
      have HY : Hid ((b.map (fun p : DatT => (p.1.1, p.2.1)))[k]? = some ((fun p : DatT => (p.1.1, p.2.1)) p2)) := Lib.hid (by rw [List.getElem?_map, hy]; rfl)
      have HP1 := Lib.hid (List.mem_of_getElem? hx)
      have HP2 := Lib.hid (List.mem_of_getElem? hy)
      obtain ⟨g1, f1, rfl, hg1, hA1, hok1⟩ := (HA.out.keep HW.out).at_ hx
      obtain ⟨g2, f2, rfl, hg2, hA2, hok2⟩ := (HB.out.keep HW.out).at_ hy
      rw [show (elD.s) = 6 from rfl] at hA1 hA2
      have q0 := hA1 0 (.int .i64 p1.1.1.op) rfl
      have q1 := hA1 1 (.int .i64 p1.1.1.A) rfl
      have q2 := hA1 2 (.int .i64 p1.1.1.B) rfl
      have q3 := hA1 3 (.int .u64 p1.1.1.K) rfl
      have q4 := hA1 4 p1.1.2 rfl
      have q5 := hA1 5 p1.2.2 rfl
      have r0 := hA2 0 (.int .i64 p2.1.1.op) rfl
      have r1 := hA2 1 (.int .i64 p2.1.1.A) rfl
      have r2 := hA2 2 (.int .i64 p2.1.1.B) rfl
      have r3 := hA2 3 (.int .u64 p2.1.1.K) rfl
      have r4 := hA2 4 p2.1.2 rfl
      have r5 := hA2 5 p2.2.2 rfl
      rw [Nat.add_zero] at q0 r0
      have hO1 : elD.ok wr p1 := hok1
      have hO2 : elD.ok wr p2 := hok2
      have HONE2 := Lib.hid fun W (h : Below wr.heap.size wr W) => HONE.out W p1 p2 (HW.out.trans (h.mono HW.out.size)) HP1.out HP2.out (elD.stay hO1 h) (elD.stay hO2 h)
      clear hx hy hA1 hA2 hO1 hO2 hg1 hg2
      obtain ⟨v1, hv1⟩ : ∃ v, (fun p : DatT => (p.1.1, p.2.1)) p1 = v := ⟨_, rfl⟩
      obtain ⟨v2, hv2⟩ : ∃ v, (fun p : DatT => (p.1.1, p.2.1)) p2 = v := ⟨_, rfl⟩
      dsimp only at HX HY hv1 hv2
      rw [hv1] at HX HONE2
      rw [hv2] at HY HONE2
      clear hv1 hv2 HP1 HP2
      obtain ⟨⟨⟨op1, A1, B1, K1, L1⟩, c41⟩, ⟨x11, c51⟩⟩ := p1
      obtain ⟨⟨⟨A01, k01, e01, _⟩, _⟩, ⟨⟨A11, k11, e11, _⟩, _⟩⟩ := id hok1
      simp only at e01 e11
      obtain ⟨n01, hn01⟩ : ∃ m, L1.length = m := ⟨_, rfl⟩
      obtain ⟨n11, hn11⟩ : ∃ m, x11.length = m := ⟨_, rfl⟩
      rw [hn01] at e01
      rw [hn11] at e11
      subst e01 e11
      obtain ⟨⟨⟨op2, A2, B2, K2, L2⟩, c42⟩, ⟨x12, c52⟩⟩ := p2
      obtain ⟨⟨⟨A02, k02, e02, _⟩, _⟩, ⟨⟨A12, k12, e12, _⟩, _⟩⟩ := id hok2
      simp only at e02 e12
      obtain ⟨n02, hn02⟩ : ∃ m, L2.length = m := ⟨_, rfl⟩
      obtain ⟨n12, hn12⟩ : ∃ m, x12.length = m := ⟨_, rfl⟩
      rw [hn02] at e02
      rw [hn12] at e12
      subst e02 e12
      have hin1 : (0 : Int) ≤ (k : Int) := by omega
      have hin2 : (k : Int) < (n : Int) := by omega
      have hw1 : IntKind.i64.wrap ((k : Int) + 1) = (k : Int) + 1 := IntWalk.i64_in _ (by omega)
      have hb1 := (Below.refl wr.heap.size wr).alloc (Nat.le_refl _) (.cells #[.int .i64 op1, .int .i64 A1, .int .i64 B1, .int .u64 K1, .slice A01 n01 k01, .slice A11 n11 k11] 93)
      have hb2 := hb1.alloc hb1.size (.cells #[.int .i64 op2, .int .i64 A2, .int .i64 B2, .int .u64 K2, .slice A02 n02 k02, .slice A12 n12 k12] 93)
      have HB2 := Lib.hid hb2
      have HCS := Lib.hid (HONE2.out _ hb2)
      have r0' := Lib.cell?_alloc_some (.cells #[.int .i64 op1, .int .i64 A1, .int .i64 B1, .int .u64 K1, .slice A01 n01 k01, .slice A11 n11 k11] 93) r0
      have r1' := Lib.cell?_alloc_some (.cells #[.int .i64 op1, .int .i64 A1, .int .i64 B1, .int .u64 K1, .slice A01 n01 k01, .slice A11 n11 k11] 93) r1
      have r2' := Lib.cell?_alloc_some (.cells #[.int .i64 op1, .int .i64 A1, .int .i64 B1, .int .u64 K1, .slice A01 n01 k01, .slice A11 n11 k11] 93) r2
      have r3' := Lib.cell?_alloc_some (.cells #[.int .i64 op1, .int .i64 A1, .int .i64 B1, .int .u64 K1, .slice A01 n01 k01, .slice A11 n11 k11] 93) r3
      have r4' := Lib.cell?_alloc_some (.cells #[.int .i64 op1, .int .i64 A1, .int .i64 B1, .int .u64 K1, .slice A01 n01 k01, .slice A11 n11 k11] 93) r4
      have r5' := Lib.cell?_alloc_some (.cells #[.int .i64 op1, .int .i64 A1, .int .i64 B1, .int .u64 K1, .slice A01 n01 k01, .slice A11 n11 k11] 93) r5
      clear hb1 hb2 HONE2 hok1 hok2
      go_wp2_with fail
      refine HCS.out.mono ?_
      rintro e w1 ⟨⟨r, rfl, hr⟩, hb⟩
      have HW1 := Lib.hid (HW.out.trans ((HB2.out.trans (hb.mono HB2.out.size)).mono HW.out.size))
      have HR := Lib.hid hr
      clear hb hr HCS HB2 q0 r0 r0' q1 r1 r1' q2 r2 r2' q3 r3 r3' q4 r4 r4' q5 r5 r5'
      cases r with
      | false =>
        have HQ : Hid (false = true ↔ a.map (fun p : DatT => (p.1.1, p.2.1)) = b.map (fun p : DatT => (p.1.1, p.2.1))) := ⟨fun h => (by cases h), fun h => by
          have h1 := HX.out
          rw [h, HY.out] at h1
          exact HR.out.2 (Option.some.inj h1).symm⟩
        go_wp2_with fail
        exact bodyPost_ret (v := .bool false) (by simp [results, Tryz.results60, go_sem]) rfl ⟨⟨_, rfl, HQ.out⟩, HW1.out⟩
      | true =>
        have HQ : Hid (∀ i, i < k + 1 → (a.map (fun p : DatT => (p.1.1, p.2.1)))[i]? = (b.map (fun p : DatT => (p.1.1, p.2.1)))[i]?) := fun i hi => by
          by_cases e : i = k
          · subst e
            rw [HX.out, HY.out, HR.out.1 rfl]
          · exact HALL.out i (by omega)
        go_wp2_with fail
        go_roundw
        case rel => exact ⟨k + 1, by go_num, hlt, HQ.out, HW1.out⟩
        case measure => simp [intOf]; omega
    · have hkn : k = n := by omega
      subst hkn
      have HQ : Hid (true = true ↔ a.map (fun p : DatT => (p.1.1, p.2.1)) = b.map (fun p : DatT => (p.1.1, p.2.1))) := ⟨fun _ => by
        apply List.ext_getElem?
        intro i
        by_cases hi : i < k
        · exact HALL.out i hi
        · rw [List.getElem?_eq_none (by rw [List.length_map, HN.out]; omega), List.getElem?_eq_none (by rw [List.length_map, HM.out]; omega)], fun _ => rfl⟩
      go_wp2_with fail
      exact bodyPost_ret (v := .bool true) (by simp [results, Tryz.results60, go_sem]) rfl ⟨by first | exact ⟨_, rfl, HQ.out⟩ | exact .inr ⟨rfl, by have h := HQ.out; simpa using h⟩, HW.out⟩
theorem peq_Data {a b : List DatT} {u v : Value} {w : World} (hbig : a.length ≤ 100000) (ha : RowG.Row elD w u a) (hb : RowG.Row elD w v b)
    (hone : ∀ W p q, Below w.heap.size w W → p ∈ a → q ∈ b → elD.ok W p → elD.ok W q → Calls Tryz.prog 61 #[(fun p : DatT => .agg #[.int .i64 p.1.1.op, .int .i64 p.1.1.A, .int .i64 p.1.1.B, .int .u64 p.1.1.K, p.1.2, p.2.2]) p, (fun p : DatT => .agg #[.int .i64 p.1.1.op, .int .i64 p.1.1.A, .int .i64 p.1.1.B, .int .u64 p.1.1.K, p.1.2, p.2.2]) q] W fun e w' => (∃ r : Bool, e = .returned (.bool r) ∧ (r = true ↔ (fun p : DatT => (p.1.1, p.2.1)) p = (fun p : DatT => (p.1.1, p.2.1)) q)) ∧ Below W.heap.size W w') :
    Calls Tryz.prog 60 #[u, v, .func (.func 61) #[] #[]] w fun e w' => (∃ r : Bool, e = .returned (.bool r) ∧ (r = true ↔ a.map (fun p : DatT => (p.1.1, p.2.1)) = b.map (fun p : DatT => (p.1.1, p.2.1)))) ∧ Below w.heap.size w w' := by
  obtain ⟨A, c, rfl⟩ := row_len ha
  obtain ⟨B, d, rfl⟩ := row_len hb
  by_cases h : a.length = b.length
  · rw [← h] at hb ⊢
    exact pqf_Data rfl h.symm hbig ha hb hone
  · have HQ : Hid (false = true ↔ a.map (fun p : DatT => (p.1.1, p.2.1)) = b.map (fun p : DatT => (p.1.1, p.2.1))) := ⟨fun h => (by cases h), fun e => by
      have := congrArg List.length e
      rw [List.length_map, List.length_map] at this
      exact absurd this h⟩
    obtain ⟨n, hn⟩ : ∃ n, a.length = n := ⟨_, rfl⟩
    obtain ⟨m, hm⟩ : ∃ n, b.length = n := ⟨_, rfl⟩
    rw [hn, hm] at h ⊢
    have t1 : ((n : Int) != (m : Int)) = true := by simp; omega
    have t1' : (n != m) = true := by simpa using h
    clear h hn hm ha hb hone hbig
    go_enter Tryz.func60, Tryz.ntmps60
    go_wp2_with fail
    exact bodyPost_ret (v := .bool false) (by simp [results, Tryz.results60, go_sem]) rfl ⟨⟨_, rfl, HQ.out⟩, Below.refl _ _⟩
end Go.Proofs.YtffegkjlgeblbaaGreatDoor.Mdl
end

section
/- Are two lists of FuncType the same, by the program: walked. -/
namespace Go.Proofs.YtffegkjlgeblbaaGreatDoor.Mdl
open Go.RowKit Ints Typ Ins
set_option maxRecDepth 100000
set_option maxHeartbeats 4000000
set_option linter.unusedVariables false
theorem pqf_FuncType {a b : List FunT} {A B : Option Addr} {n c d : Nat} {w : World} (hn1 : a.length = n) (hn2 : b.length = n) (hbig : n ≤ 100000) (ha : RowG.Row elF w (.slice A n c) a) (hb : RowG.Row elF w (.slice B n d) b)
    (hone : ∀ W p q, Below w.heap.size w W → p ∈ a → q ∈ b → elF.ok W p → elF.ok W q → Calls Tryz.prog 49 #[(fun p : FunT => .agg #[p.1.2, p.2.2]) p, (fun p : FunT => .agg #[p.1.2, p.2.2]) q] W fun e w' => (∃ r : Bool, e = .returned (.bool r) ∧ (r = true ↔ (fun p : FunT => (p.1.1, p.2.1)) p = (fun p : FunT => (p.1.1, p.2.1)) q)) ∧ Below W.heap.size W w') :
    Calls Tryz.prog 48 #[.slice A n c, .slice B n d, .func (.func 49) #[] #[]] w fun e w' => (∃ r : Bool, e = .returned (.bool r) ∧ (r = true ↔ a.map (fun p : FunT => (p.1.1, p.2.1)) = b.map (fun p : FunT => (p.1.1, p.2.1)))) ∧ Below w.heap.size w w' := by
  have hrun : ∀ args W, (callFunc 49 args).run Tryz.prog W = .ok (.enter 49 args) W := fun args W => Stab.run_enter Tryz.func49 (by kernel_rfl) rfl args W
  have HN := Lib.hid hn1
  have HM := Lib.hid hn2
  have HA := Lib.hid ha
  have HB := Lib.hid hb
  have HONE := Lib.hid hone
  clear hn1 hn2 ha hb hone
  go_enter Tryz.func48, Tryz.ntmps48
  go_wp2_with fail
  go_loopw [17] (fun j' wr => ∃ k : Nat, j' = .int .i64 (k : Int) ∧ k ≤ n ∧ (∀ i, i < k → (a.map (fun p : FunT => (p.1.1, p.2.1)))[i]? = (b.map (fun p : FunT => (p.1.1, p.2.1)))[i]?) ∧ Below w.heap.size w wr) (fun j' _ => n - (intOf j').toNat)
  case atStart => exact ⟨0, by go_num, Nat.zero_le _, fun i hi => absurd hi (by omega), Below.refl _ _⟩
  case round =>
    obtain ⟨k, rfl, hk, ht, hW⟩ := hrel
    have HALL := Lib.hid ht
    have HW := Lib.hid hW
    clear ht hW
    by_cases hlt : k < n
    · obtain ⟨p1, hx⟩ : ∃ y, a[k]? = some y := ⟨_, List.getElem?_eq_getElem (by rw [HN.out]; exact hlt)⟩
      obtain ⟨p2, hy⟩ : ∃ y, b[k]? = some y := ⟨_, List.getElem?_eq_getElem (by rw [HM.out]; exact hlt)⟩
      have HX : Hid ((a.map (fun p : FunT => (p.1.1, p.2.1)))[k]? = some ((fun p : FunT => (p.1.1, p.2.1)) p1)) := Lib.hid (by rw [List.getElem?_map, hx]; rfl)
      have HY : Hid ((b.map (fun p : FunT => (p.1.1, p.2.1)))[k]? = some ((fun p : FunT => (p.1.1, p.2.1)) p2)) := Lib.hid (by rw [List.getElem?_map, hy]; rfl)
      have HP1 := Lib.hid (List.mem_of_getElem? hx)
      have HP2 := Lib.hid (List.mem_of_getElem? hy)
      obtain ⟨g1, f1, rfl, hg1, hA1, hok1⟩ := (HA.out.keep HW.out).at_ hx
      obtain ⟨g2, f2, rfl, hg2, hA2, hok2⟩ := (HB.out.keep HW.out).at_ hy
      rw [show (elF.s) = 2 from rfl] at hA1 hA2
      have q0 := hA1 0 p1.1.2 rfl
      have q1 := hA1 1 p1.2.2 rfl
      have r0 := hA2 0 p2.1.2 rfl
      have r1 := hA2 1 p2.2.2 rfl
      rw [Nat.add_zero] at q0 r0
      have hO1 : elF.ok wr p1 := hok1
      have hO2 : elF.ok wr p2 := hok2
      have HONE2 := Lib.hid fun W (h : Below wr.heap.size wr W) => HONE.out W p1 p2 (HW.out.trans (h.mono HW.out.size)) HP1.out HP2.out (elF.stay hO1 h) (elF.stay hO2 h)
      clear hx hy hA1 hA2 hO1 hO2 hg1 hg2
      obtain ⟨v1, hv1⟩ : ∃ v, (fun p : FunT => (p.1.1, p.2.1)) p1 = v := ⟨_, rfl⟩
      obtain ⟨v2, hv2⟩ : ∃ v, (fun p : FunT => (p.1.1, p.2.1)) p2 = v := ⟨_, rfl⟩
      dsimp only at HX HY hv1 hv2
      rw [hv1] at HX HONE2
      rw [hv2] at HY HONE2
      clear hv1 hv2 HP1 HP2
      obtain ⟨⟨x01, c01⟩, ⟨x11, c11⟩⟩ := p1
      obtain ⟨⟨⟨A01, k01, e01, _⟩, _⟩, ⟨⟨A11, k11, e11, _⟩, _⟩⟩ := id hok1
      simp only at e01 e11
      obtain ⟨n01, hn01⟩ : ∃ m, x01.length = m := ⟨_, rfl⟩
      obtain ⟨n11, hn11⟩ : ∃ m, x11.length = m := ⟨_, rfl⟩
      rw [hn01] at e01
      rw [hn11] at e11
      subst e01 e11
      obtain ⟨⟨x02, c02⟩, ⟨x12, c12⟩⟩ := p2
      obtain ⟨⟨⟨A02, k02, e02, _⟩, _⟩, ⟨⟨A12, k12, e12, _⟩, _⟩⟩ := id hok2
      simp only at e02 e12
      obtain ⟨n02, hn02⟩ : ∃ m, x02.length = m := ⟨_, rfl⟩
      obtain ⟨n12, hn12⟩ : ∃ m, x12.length = m := ⟨_, rfl⟩
      rw [hn02] at e02
      rw [hn12] at e12
      subst e02 e12
      have hin1 : (0 : Int) ≤ (k : Int) := by omega
      have hin2 : (k : Int) < (n : Int) := by omega
      have hw1 : IntKind.i64.wrap ((k : Int) + 1) = (k : Int) + 1 := IntWalk.i64_in _ (by omega)
      have hb1 := (Below.refl wr.heap.size wr).alloc (Nat.le_refl _) (.cells #[.slice A01 n01 k01, .slice A11 n11 k11] 95)
      have hb2 := hb1.alloc hb1.size (.cells #[.slice A02 n02 k02, .slice A12 n12 k12] 95)
      have HB2 := Lib.hid hb2
      have HCS := Lib.hid (HONE2.out _ hb2)
      have r0' := Lib.cell?_alloc_some (.cells #[.slice A01 n01 k01, .slice A11 n11 k11] 95) r0
      have r1' := Lib.cell?_alloc_some (.cells #[.slice A01 n01 k01, .slice A11 n11 k11] 95) r1
      clear hb1 hb2 HONE2 hok1 hok2
      go_wp2_with fail
      refine HCS.out.mono ?_
      rintro e w1 ⟨⟨r, rfl, hr⟩, hb⟩
      have HW1 := Lib.hid (HW.out.trans ((HB2.out.trans (hb.mono HB2.out.size)).mono HW.out.size))
      have HR := Lib.hid hr
      clear hb hr HCS HB2 q0 r0 r0' q1 r1 r1'
      cases r with
      | false =>
        have HQ : Hid (false = true ↔ a.map (fun p : FunT => (p.1.1, p.2.1)) = b.map (fun p : FunT => (p.1.1, p.2.1))) := ⟨fun h => (by cases h), fun h => by
          have h1 := HX.out
          rw [h, HY.out] at h1
          exact HR.out.2 (Option.some.inj h1).symm⟩
        go_wp2_with fail
        exact bodyPost_ret (v := .bool false) (by simp [results, Tryz.results48, go_sem]) rfl ⟨⟨_, rfl, HQ.out⟩, HW1.out⟩
      | true =>
        have HQ : Hid (∀ i, i < k + 1 → (a.map (fun p : FunT => (p.1.1, p.2.1)))[i]? = (b.map (fun p : FunT => (p.1.1, p.2.1)))[i]?) := fun i hi => by
          by_cases e : i = k
          · subst e
            rw [HX.out, HY.out, HR.out.1 rfl]
          · exact HALL.out i (by omega)
        go_wp2_with fail
        go_roundw
        case rel => exact ⟨k + 1, by go_num, hlt, HQ.out, HW1.out⟩
        case measure => simp [intOf]; omega
    · have hkn : k = n := by omega
      subst hkn
      have HQ : Hid (true = true ↔ a.map (fun p : FunT => (p.1.1, p.2.1)) = b.map (fun p : FunT => (p.1.1, p.2.1))) := ⟨fun _ => by
        apply List.ext_getElem?
        intro i
        by_cases hi : i < k
        · exact HALL.out i hi
        · rw [List.getElem?_eq_none (by rw [List.length_map, HN.out]; omega), List.getElem?_eq_none (by rw [List.length_map, HM.out]; omega)], fun _ => rfl⟩
      go_wp2_with fail
      exact bodyPost_ret (v := .bool true) (by simp [results, Tryz.results48, go_sem]) rfl ⟨by first | exact ⟨_, rfl, HQ.out⟩ | exact .inr ⟨rfl, by have h := HQ.out; simpa using h⟩, HW.out⟩
theorem peq_FuncType {a b : List FunT} {u v : Value} {w : World} (hbig : a.length ≤ 100000) (ha : RowG.Row elF w u a) (hb : RowG.Row elF w v b)
    (hone : ∀ W p q, Below w.heap.size w W → p ∈ a → q ∈ b → elF.ok W p → elF.ok W q → Calls Tryz.prog 49 #[(fun p : FunT => .agg #[p.1.2, p.2.2]) p, (fun p : FunT => .agg #[p.1.2, p.2.2]) q] W fun e w' => (∃ r : Bool, e = .returned (.bool r) ∧ (r = true ↔ (fun p : FunT => (p.1.1, p.2.1)) p = (fun p : FunT => (p.1.1, p.2.1)) q)) ∧ Below W.heap.size W w') :
    Calls Tryz.prog 48 #[u, v, .func (.func 49) #[] #[]] w fun e w' => (∃ r : Bool, e = .returned (.bool r) ∧ (r = true ↔ a.map (fun p : FunT => (p.1.1, p.2.1)) = b.map (fun p : FunT => (p.1.1, p.2.1)))) ∧ Below w.heap.size w w' := by
  obtain ⟨A, c, rfl⟩ := row_len ha
  obtain ⟨B, d, rfl⟩ := row_len hb
  by_cases h : a.length = b.length
  · rw [← h] at hb ⊢
    exact pqf_FuncType rfl h.symm hbig ha hb hone
  · have HQ : Hid (false = true ↔ a.map (fun p : FunT => (p.1.1, p.2.1)) = b.map (fun p : FunT => (p.1.1, p.2.1))) := ⟨fun h => (by cases h), fun e => by
      have := congrArg List.length e
      rw [List.length_map, List.length_map] at this
      exact absurd this h⟩
    obtain ⟨n, hn⟩ : ∃ n, a.length = n := ⟨_, rfl⟩
    obtain ⟨m, hm⟩ : ∃ n, b.length = n := ⟨_, rfl⟩
    rw [hn, hm] at h ⊢
    have t1 : ((n : Int) != (m : Int)) = true := by simp; omega
    have t1' : (n != m) = true := by simpa using h
    clear h hn hm ha hb hone hbig
    go_enter Tryz.func48, Tryz.ntmps48
    go_wp2_with fail
    exact bodyPost_ret (v := .bool false) (by simp [results, Tryz.results48, go_sem]) rfl ⟨⟨_, rfl, HQ.out⟩, Below.refl _ _⟩
end Go.Proofs.YtffegkjlgeblbaaGreatDoor.Mdl
end

section
/- A module in a box: loads of it, and of its lists. -/
namespace Go.Proofs.YtffegkjlgeblbaaGreatDoor.Mdl
open Go.RowKit Ints Typ Ins
set_option maxRecDepth 100000
set_option maxHeartbeats 1000000
set_option linter.unusedVariables false
theorem bx_keep {W0 W : World} {b : Nat} {o : Obj} (h : W0.heap[b]? = some o) (hb : Below W0.heap.size W0 W) : W.heap[b]? = some o := by
  rw [hb.block _ (Array.getElem?_eq_some_iff.1 h).1]
  exact h
theorem run_ldM {W : World} {b : Nat} {c0 c1 c2 c3 c4 c5 c6 c7 c8 c9 c10 : Value} (h : W.heap[b]? = some (.cells #[c0, c1, c2, c3, c4, c5, c6, c7, c8, c9, c10] 34 (0, 0))) :
    (Instr.loadAt 34 (.pointer (some ⟨b, 0, none⟩))).run Tryz.prog W = .ok (.agg #[c0, c1, c2, c3, c4, c5, c6, c7, c8, c9, c10]) W := by
  have q0 := (Sec.cells_at h 0).1
  have q1 := (Sec.cells_at h 1).1
  have q2 := (Sec.cells_at h 2).1
  have q3 := (Sec.cells_at h 3).1
  have q4 := (Sec.cells_at h 4).1
  have q5 := (Sec.cells_at h 5).1
  have q6 := (Sec.cells_at h 6).1
  have q7 := (Sec.cells_at h 7).1
  have q8 := (Sec.cells_at h 8).1
  have q9 := (Sec.cells_at h 9).1
  have q10 := (Sec.cells_at h 10).1
  clear h
  go_simp
end Go.Proofs.YtffegkjlgeblbaaGreatDoor.Mdl
end
