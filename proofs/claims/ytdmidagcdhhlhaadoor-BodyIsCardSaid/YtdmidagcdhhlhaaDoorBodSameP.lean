/- Are instructions the same, by the program: walked. -/
import Derived.Test.YtdmidagcdhhlhaaDoorBodNesteds
import Derived.Test.YtdmidagcdhhlhaaDoorInsPSame
import Derived.Test.YtdmidagcdhhlhaaDoorBodSame
namespace Go.Proofs.YtdmidagcdhhlhaaDoor.Bod
open Go.RowKit Ints Typ Ins
set_option maxRecDepth 100000
set_option maxHeartbeats 2000000
set_option linter.unusedVariables false
theorem eqf_any {a b : List (Ins × Value)} {A B : Option Addr} {n c d : Nat} {w : World} (hn1 : a.length = n) (hn2 : b.length = n) (hbig : n ≤ 80000) (ha : InRow w (.slice A n c) a) (hb : InRow w (.slice B n d) b) :
    Calls Tryd.prog 45 #[.slice A n c, .slice B n d, .func (.func 46) #[] #[]] w fun e w' => (∃ r : Bool, e = .returned (.bool r) ∧ (r = true ↔ insL a = insL b)) ∧ Below w.heap.size w w' := by
  have hrun : ∀ args W, (callFunc 46 args).run Tryd.prog W = .ok (.enter 46 args) W := fun args W => Stab.run_enter Tryd.func46 (by kernel_rfl) rfl args W
  have HN := Lib.hid hn1
  have HM := Lib.hid hn2
  have HA := Lib.hid ha
  have HB := Lib.hid hb
  clear hn1 hn2 ha hb
  go_enter Tryd.func45, Tryd.ntmps45
  go_wp2_with fail
  go_loopw [17] (fun j' wr => ∃ k : Nat, j' = .int .i64 (k : Int) ∧ k ≤ n ∧ (∀ i, i < k → (insL a)[i]? = (insL b)[i]?) ∧ Below w.heap.size w wr) (fun j' _ => n - (intOf j').toNat)
  case atStart => exact ⟨0, by go_num, Nat.zero_le _, fun i hi => absurd hi (by omega), Below.refl _ _⟩
  case round =>
    obtain ⟨k, rfl, hk, ht, hW⟩ := hrel
    have HALL := Lib.hid ht
    have HW := Lib.hid hW
    clear ht hW
    by_cases hlt : k < n
    · obtain ⟨x, hx⟩ : ∃ y, a[k]? = some y := ⟨_, List.getElem?_eq_getElem (by rw [HN.out]; exact hlt)⟩
      obtain ⟨y, hy⟩ : ∃ y, b[k]? = some y := ⟨_, List.getElem?_eq_getElem (by rw [HM.out]; exact hlt)⟩
      have HX := Lib.hid (insL_get hx)
      have HY := Lib.hid (insL_get hy)
      obtain ⟨g1, f1, rfl, hC1, hO1⟩ := (HA.out.keep HW.out).at_ hx
      obtain ⟨g2, f2, rfl, hC2, hO2⟩ := (HB.out.keep HW.out).at_ hy
      obtain ⟨P1, c1, hp1, _⟩ := id hO1.1
      obtain ⟨P2, c2, hp2, _⟩ := id hO2.1
      have HO1 := Lib.hid hO1
      have HO2 := Lib.hid hO2
      obtain ⟨x, ox⟩ := x
      obtain ⟨y, oy⟩ := y
      simp only at hp1 hp2 HX HY
      obtain ⟨n1, hn1⟩ : ∃ m, x.L.length = m := ⟨_, rfl⟩
      obtain ⟨n2, hn2⟩ : ∃ m, y.L.length = m := ⟨_, rfl⟩
      rw [hn1] at hp1
      rw [hn2] at hp2
      subst hp1 hp2
      clear hx hy hn1 hn2 hO1 hO2
      obtain ⟨q1, q2, q3, q4, q5⟩ := hC1
      obtain ⟨r1, r2, r3, r4, r5⟩ := hC2
      simp only at q1 q2 q3 q4 q5 r1 r2 r3 r4 r5
      have hin1 : (0 : Int) ≤ (k : Int) := by omega
      have hin2 : (k : Int) < (n : Int) := by omega
      have hw1 : IntKind.i64.wrap ((k : Int) + 1) = (k : Int) + 1 := IntWalk.i64_in _ (by omega)
      have hb1 := (Below.refl wr.heap.size wr).alloc (Nat.le_refl _) (.cells #[.int .i64 x.op, .int .i64 x.A, .int .i64 x.B, .int .u64 x.K, .slice P1 n1 c1] 50)
      have hb2 := hb1.alloc hb1.size (.cells #[.int .i64 y.op, .int .i64 y.A, .int .i64 y.B, .int .u64 y.K, .slice P2 n2 c2] 50)
      have HB2 := Lib.hid hb2
      have hAl := fun {g o : Nat} {p : Ins × Value} (h : InCells wr g o p) => h
      have HCS := Lib.hid (psame_any (HO1.out.1.keep hb2) (HO2.out.1.keep hb2))
      have r1' := Lib.cell?_alloc_some (.cells #[.int .i64 x.op, .int .i64 x.A, .int .i64 x.B, .int .u64 x.K, .slice P1 n1 c1] 50) r1
      have r2' := Lib.cell?_alloc_some (.cells #[.int .i64 x.op, .int .i64 x.A, .int .i64 x.B, .int .u64 x.K, .slice P1 n1 c1] 50) r2
      have r3' := Lib.cell?_alloc_some (.cells #[.int .i64 x.op, .int .i64 x.A, .int .i64 x.B, .int .u64 x.K, .slice P1 n1 c1] 50) r3
      have r4' := Lib.cell?_alloc_some (.cells #[.int .i64 x.op, .int .i64 x.A, .int .i64 x.B, .int .u64 x.K, .slice P1 n1 c1] 50) r4
      have r5' := Lib.cell?_alloc_some (.cells #[.int .i64 x.op, .int .i64 x.A, .int .i64 x.B, .int .u64 x.K, .slice P1 n1 c1] 50) r5
      clear hb1 hb2 hAl
      go_wp2_with fail
      refine HCS.out.mono ?_
      rintro e w1 ⟨rfl, hb⟩
      have HW1 := Lib.hid (HW.out.trans ((HB2.out.trans (hb.mono HB2.out.size)).mono HW.out.size))
      clear hb q1 q2 q3 q4 q5 r1 r2 r3 r4 r5 r1' r2' r3' r4' r5' HCS HB2
      cases hs : smI x y with
      | false =>
        have HQ : Hid (false = true ↔ insL a = insL b) := ⟨fun h => (by cases h), fun h => by
          have h1 := HX.out
          rw [h, HY.out] at h1
          rw [← Option.some.inj h1, smI_eq.2 rfl] at hs
          cases hs⟩
        clear hs
        go_wp2_with fail
        exact bodyPost_ret (v := .bool false) (by simp [results, Tryd.results45, go_sem]) rfl ⟨⟨_, rfl, HQ.out⟩, HW1.out⟩
      | true =>
        have HQ : Hid (∀ i, i < k + 1 → (insL a)[i]? = (insL b)[i]?) := fun i hi => by
          by_cases e : i = k
          · subst e
            rw [HX.out, HY.out, smI_eq.1 hs]
          · exact HALL.out i (by omega)
        clear hs
        go_wp2_with fail
        go_roundw
        case rel => exact ⟨k + 1, by go_num, hlt, HQ.out, HW1.out⟩
        case measure => simp [intOf]; omega
    · have hkn : k = n := by omega
      subst hkn
      have HQ : Hid (true = true ↔ insL a = insL b) := ⟨fun _ => by
        apply List.ext_getElem?
        intro i
        by_cases hi : i < k
        · exact HALL.out i hi
        · rw [List.getElem?_eq_none (by rw [insL_len, HN.out]; omega), List.getElem?_eq_none (by rw [insL_len, HM.out]; omega)], fun _ => rfl⟩
      go_wp2_with fail
      exact bodyPost_ret (v := .bool true) (by simp [results, Tryd.results45, go_sem]) rfl ⟨by first | exact ⟨_, rfl, HQ.out⟩ | exact .inr ⟨rfl, by have h := HQ.out; simpa using h⟩, HW.out⟩
theorem eqf_all {a b : List (Ins × Value)} {A B : Option Addr} {n m c d : Nat} {w : World} (hn1 : a.length = n) (hn2 : b.length = m) (hbig : n ≤ 80000) (ha : InRow w (.slice A n c) a) (hb : InRow w (.slice B m d) b) :
    Calls Tryd.prog 45 #[.slice A n c, .slice B m d, .func (.func 46) #[] #[]] w fun e w' => (∃ r : Bool, e = .returned (.bool r) ∧ (r = true ↔ insL a = insL b)) ∧ Below w.heap.size w w' := by
  by_cases h : n = m
  · subst h
    exact eqf_any hn1 hn2 hbig ha hb
  · have HQ : Hid (false = true ↔ insL a = insL b) := ⟨fun h => (by cases h), fun e => by
      have := congrArg List.length e
      rw [insL_len, insL_len, hn1, hn2] at this
      exact absurd this h⟩
    have t1 : ((n : Int) != (m : Int)) = true := by simp; omega
    have t1' : (n != m) = true := by simpa using h
    clear h hn1 hn2 ha hb
    go_enter Tryd.func45, Tryd.ntmps45
    go_wp2_with fail
    exact bodyPost_ret (v := .bool false) (by simp [results, Tryd.results45, go_sem]) rfl ⟨⟨_, rfl, HQ.out⟩, Below.refl _ _⟩
theorem bsameP_any {a b : List (Ins × Value)} {o p : Value} {w : World} (hbig : a.length ≤ 80000) (ha : InRow w o a) (hb : InRow w p b) : Calls Tryd.prog 27 #[o, p] w fun e w' => (∃ r : Bool, e = .returned (.bool r) ∧ (r = true ↔ insL a = insL b)) ∧ Below w.heap.size w w' := by
  obtain ⟨⟨A, c, rfl, _⟩, _⟩ := id ha
  obtain ⟨⟨B, d, rfl, _⟩, _⟩ := id hb
  have HC := Lib.hid (eqf_all rfl rfl hbig ha hb)
  generalize a.length = n at HC
  generalize b.length = m at HC
  clear ha hb hbig
  go_enter Tryd.func27, Tryd.ntmps27
  go_wp2_with fail
  refine HC.out.mono ?_
  rintro e w1 ⟨⟨r, rfl, hr⟩, hb⟩
  have HR := Lib.hid hr
  have HB := Lib.hid hb
  clear hr hb
  go_wp2_with fail
  exact bodyPost_ret (v := .bool r) (by simp [results, Tryd.results27, go_sem]) rfl ⟨⟨_, rfl, HR.out⟩, HB.out⟩
end Go.Proofs.YtdmidagcdhhlhaaDoor.Bod
