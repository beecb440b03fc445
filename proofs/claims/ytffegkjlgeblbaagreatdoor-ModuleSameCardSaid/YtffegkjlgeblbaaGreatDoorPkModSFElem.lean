/- ModRuns, ModSFGlobalDef, ModSFElem. -/
import Derived.Test.YtffegkjlgeblbaaGreatDoorPkModCount
import Derived.Test.YtffegkjlgeblbaaGreatDoorPkBodTurn
import Derived.Test.YtffegkjlgeblbaaGreatDoorPkSecMath
import Derived.Deep.QuietTactic
import Derived.BigQuiet
import Derived.Test.YtffegkjlgeblbaaGreatDoorStabAll
import Derived.Test.YtffegkjlgeblbaaGreatDoorPkBodPut
section
/- Runs of bytes, by the document: walked. -/
namespace Go.Proofs.YtffegkjlgeblbaaGreatDoor.Mdl
open Go.RowKit Ints Typ Ins
set_option maxRecDepth 100000
set_option maxHeartbeats 4000000
set_option linter.unusedVariables false
def elP : RowG.El (Int × Int) where
  e := 45
  s := 2
  z := .agg #[.int .i64 0, .int .i64 0]
  bytes := 16
  enc := fun p => [.int .i64 p.1, .int .i64 p.2]
  ok := fun w p => True
  pos := by decide
  len := fun _ => rfl
  info := by kernel_rfl
  zs := rfl
  stay := fun h _ => h
  one := fun h u hu => by
    simp only [List.mem_cons, List.not_mem_nil, or_false] at hu
    rcases hu with rfl | rfl <;> rfl
theorem own_set {w : World} {B g e s n n0 c i : Nat} {xs : List Value} {v : Value} (h : w.ownsRow B e s (.slice (some ⟨g, 0, none⟩) n0 c) n xs) (hi : i < n * s) : (w.setCell ⟨g, i, none⟩ v).ownsRow B e s (.slice (some ⟨g, 0, none⟩) n0 c) n (xs.set i v) := by
  obtain ⟨h1, ⟨h2, h3⟩ | ⟨g', cap, cur, hv, hB, hc, hle, hm, hsz, ht⟩⟩ := h
  · cases h2
  · have hg : g = g' := by
      injection hv with e1 _ _
      simpa using e1
    subst hg
    refine ⟨by rw [List.length_set]; exact h1, .inr ⟨g, cap, cur.setIfInBounds i v, hv, hB, heap_setCell_same w g i cur e v hc, hle, hm, by rw [Array.size_setIfInBounds]; exact hsz, ?_⟩⟩
    rw [Array.toList_setIfInBounds, List.take_set, ht]
theorem own_setP {w : World} {B g n0 c k : Nat} {q : List (Int × Int)} {a b x : Int} (h : RowG.Own elP w B (.slice (some ⟨g, 0, none⟩) n0 c) (q ++ [(a, b)])) (hk : q.length = k)
    (hs : ((q ++ [(a, b)]).flatMap elP.enc).set (q.length * 2) (.int .i64 x) = (q ++ [(x, b)]).flatMap elP.enc) : RowG.Own elP (w.setCell ⟨g, k * 2, none⟩ (.int .i64 x)) B (.slice (some ⟨g, 0, none⟩) n0 c) (q ++ [(x, b)]) := by
  subst hk
  have := own_set (v := .int .i64 x) (i := q.length * 2) h (by rw [List.length_append, List.length_singleton]; show _ < (q.length + 1) * 2; omega)
  rw [hs] at this
  have e : (q ++ [(x, b)]).length = (q ++ [(a, b)]).length := by rw [List.length_append, List.length_append]; rfl
  unfold RowG.Own
  rw [e]
  exact this
def rstep (out : List (Int × Int)) (x : Int) : List (Int × Int) :=
  match out.getLast? with
  | some (c, y) => if y = x then out.dropLast ++ [(c + 1, y)] else out ++ [(1, x)]
  | none => [(1, x)]
def runs (l : List Int) : List (Int × Int) := l.foldl rstep []
theorem runs_take {l : List Int} {i : Nat} (h : i < l.length) : runs (l.take (i + 1)) = rstep (runs (l.take i)) (l.getD i 0) := by
  unfold runs
  rw [List.take_succ_eq_append_getElem h, List.foldl_append, List.getD_eq_getElem?_getD, List.getElem?_eq_getElem h]
  rfl
theorem rstep_new (x : Int) : rstep [] x = [(1, x)] := rfl
theorem rstep_more (p : List (Int × Int)) (c x : Int) : rstep (p ++ [(c, x)]) x = p ++ [(c + 1, x)] := by
  unfold rstep
  rw [List.getLast?_concat]
  simp
theorem rstep_other (p : List (Int × Int)) (c y x : Int) (h : y ≠ x) : rstep (p ++ [(c, y)]) x = p ++ [(c, y)] ++ [(1, x)] := by
  unfold rstep
  rw [List.getLast?_concat]
  simp [h]
theorem runs_small : ∀ (l : List Int), (runs l).length ≤ l.length ∧ ∀ p ∈ runs l, 0 ≤ p.1 ∧ p.1 ≤ (l.length : Int) := by
  have key : ∀ (l : List Int) (out : List (Int × Int)) (k : Nat), out.length ≤ k → (∀ p ∈ out, 0 ≤ p.1 ∧ p.1 ≤ (k : Int)) → (l.foldl rstep out).length ≤ k + l.length ∧ ∀ p ∈ l.foldl rstep out, 0 ≤ p.1 ∧ p.1 ≤ ((k + l.length : Nat) : Int) := by
    intro l
    induction l with
    | nil => intro out k h1 h2; exact ⟨h1, h2⟩
    | cons x l ih =>
      intro out k h1 h2
      rw [List.foldl_cons]
      have hs : (rstep out x).length ≤ k + 1 ∧ ∀ p ∈ rstep out x, 0 ≤ p.1 ∧ p.1 ≤ ((k + 1 : Nat) : Int) := by
        rcases List.eq_nil_or_concat out with rfl | ⟨q, ⟨c, y⟩, rfl⟩
        · rw [rstep_new]
          refine ⟨by simp, fun p hp => ?_⟩
          rw [List.mem_singleton.1 hp]
          simp only
          omega
        · rw [List.concat_eq_append] at h1 h2 ⊢
          rw [List.length_append, List.length_singleton] at h1
          by_cases hy : y = x
          · subst hy
            rw [rstep_more]
            refine ⟨by rw [List.length_append, List.length_singleton]; omega, fun p hp => ?_⟩
            rcases List.mem_append.1 hp with hp | hp
            · have := h2 p (List.mem_append_left _ hp); omega
            · have := h2 (c, y) (List.mem_append_right _ (by simp))
              rw [List.mem_singleton.1 hp]
              simp only at this ⊢
              omega
          · rw [rstep_other _ _ _ _ hy]
            refine ⟨by rw [List.length_append, List.length_append, List.length_singleton, List.length_singleton]; omega, fun p hp => ?_⟩
            rcases List.mem_append.1 hp with hp | hp
            · have := h2 p hp; omega
            · rw [List.mem_singleton.1 hp]
              simp only
              omega
      have := ih (rstep out x) (k + 1) hs.1 hs.2
      rw [List.length_cons, show k + (l.length + 1) = k + 1 + l.length from by omega]
      exact this
  intro l
  have := key l [] 0 (Nat.le_refl _) (by simp)
  simpa [runs] using this
theorem flat_set (q : List (Int × Int)) (a b c : Int) : ((q ++ [(a, b)]).flatMap elP.enc).set (q.length * 2) (.int .i64 c) = (q ++ [(c, b)]).flatMap elP.enc := by
  have hl : (q.flatMap elP.enc).length = q.length * 2 := RowG.flat_len elP q
  rw [List.flatMap_append, List.flatMap_append, List.set_append_right _ _ (by omega), hl, Nat.sub_self]
  rfl
theorem own_pair {w : World} {B g m c : Nat} {q : List (Int × Int)} {a b : Int} (h : RowG.Own elP w B (.slice (some ⟨g, 0, none⟩) m c) (q ++ [(a, b)])) : w.cell? ⟨g, q.length * 2, none⟩ = some (.int .i64 a) ∧ w.cell? ⟨g, q.length * 2 + 1, none⟩ = some (.int .i64 b) ∧ w.frozen? ⟨g, q.length * 2, none⟩ = false ∧ B ≤ g := by
  have hl : (q.flatMap elP.enc).length = q.length * 2 := RowG.flat_len elP q
  have h0 := World.ownsRow.cells h (g := g) rfl (q.length * 2) (.int .i64 a) (by rw [List.flatMap_append, List.getElem?_append_right (by omega), hl, Nat.sub_self]; rfl)
  have h1 := World.ownsRow.cells h (g := g) rfl (q.length * 2 + 1) (.int .i64 b) (by rw [List.flatMap_append, List.getElem?_append_right (by omega), hl, show q.length * 2 + 1 - q.length * 2 = 1 from by omega]; rfl)
  rw [RowG.g_plain, Nat.zero_add] at h0 h1
  refine ⟨h0, h1, ?_, (World.ownsRow.lt h g rfl).1⟩
  obtain ⟨_, ⟨e, _⟩ | ⟨g', cap, cur, hv, hB, hc, _⟩⟩ := id h
  · cases e
  · have hg : g = g' := by
      injection hv with e1 _ _
      simpa using e1
    subst hg
    exact frozen_of_row w g _ cur _ hc
theorem new_pair (w : World) (a b : Int) : RowG.At elP (w.alloc (.cells #[.int .i64 a, .int .i64 b] 45)) w.heap.size 0 (a, b) := by
  intro i u hu
  rcases i with _ | _ | i
  · simp [elP] at hu; subst hu; simp
  · simp [elP] at hu; subst hu; simp
  · simp [elP] at hu
end Go.Proofs.YtffegkjlgeblbaaGreatDoor.Mdl
end

section
/- Are two lists of GlobalDef the same, by the program: walked. -/
namespace Go.Proofs.YtffegkjlgeblbaaGreatDoor.Mdl
open Go.RowKit Ints Typ Ins
set_option maxRecDepth 100000
set_option maxHeartbeats 4000000
set_option linter.unusedVariables false
theorem pqf_GlobalDef {a b : List GlbT} {A B : Option Addr} {n c d : Nat} {w : World} (hn1 : a.length = n) (hn2 : b.length = n) (hbig : n ≤ 100000) (ha : RowG.Row elG w (.slice A n c) a) (hb : RowG.Row elG w (.slice B n d) b)
    (hone : ∀ W p q, Below w.heap.size w W → p ∈ a → q ∈ b → elG.ok W p → elG.ok W q → Calls Tryz.prog 54 #[(fun p : GlbT => .agg #[.int .u8 p.1, .bool p.2.1, .int .i64 p.2.2.1.op, .int .i64 p.2.2.1.A, .int .i64 p.2.2.1.B, .int .u64 p.2.2.1.K, p.2.2.2]) p, (fun p : GlbT => .agg #[.int .u8 p.1, .bool p.2.1, .int .i64 p.2.2.1.op, .int .i64 p.2.2.1.A, .int .i64 p.2.2.1.B, .int .u64 p.2.2.1.K, p.2.2.2]) q] W fun e w' => (∃ r : Bool, e = .returned (.bool r) ∧ (r = true ↔ (fun p : GlbT => (p.1, p.2.1, p.2.2.1)) p = (fun p : GlbT => (p.1, p.2.1, p.2.2.1)) q)) ∧ Below W.heap.size W w') :
    Calls Tryz.prog 53 #[.slice A n c, .slice B n d, .func (.func 54) #[] #[]] w fun e w' => (∃ r : Bool, e = .returned (.bool r) ∧ (r = true ↔ a.map (fun p : GlbT => (p.1, p.2.1, p.2.2.1)) = b.map (fun p : GlbT => (p.1, p.2.1, p.2.2.1)))) ∧ Below w.heap.size w w' := by
  have hrun : ∀ args W, (callFunc 54 args).run Tryz.prog W = .ok (.enter 54 args) W := fun args W => Stab.run_enter Tryz.func54 (by kernel_rfl) rfl args W
  have HN := Lib.hid hn1
  have HM := Lib.hid hn2
  have HA := Lib.hid ha
  have HB := Lib.hid hb
  have HONE := Lib.hid hone
  clear hn1 hn2 ha hb hone
  go_enter Tryz.func53, Tryz.ntmps53
  go_wp2_with fail
  go_loopw [17] (fun j' wr => ∃ k : Nat, j' = .int .i64 (k : Int) ∧ k ≤ n ∧ (∀ i, i < k → (a.map (fun p : GlbT => (p.1, p.2.1, p.2.2.1)))[i]? = (b.map (fun p : GlbT => (p.1, p.2.1, p.2.2.1)))[i]?) ∧ Below w.heap.size w wr) (fun j' _ => n - (intOf j').toNat)
  case atStart => exact ⟨0, by go_num, Nat.zero_le _, fun i hi => absurd hi (by omega), Below.refl _ _⟩
  case round =>
    obtain ⟨k, rfl, hk, ht, hW⟩ := hrel
    have HALL := Lib.hid ht
    have HW := Lib.hid hW
    clear ht hW
    by_cases hlt : k < n
    · obtain ⟨p1, hx⟩ : ∃ y, a[k]? = some y := ⟨_, List.getElem?_eq_getElem (by rw [HN.out]; exact hlt)⟩
      obtain ⟨p2, hy⟩ : ∃ y, b[k]? = some y := ⟨_, List.getElem?_eq_getElem (by rw [HM.out]; exact hlt)⟩
      have HX : Hid ((a.map (fun p : GlbT => (p.1, p.2.1, p.2.2.1)))[k]? = some ((fun p : GlbT => (p.1, p.2.1, p.2.2.1)) p1)) := Lib.hid (by rw [List.getElem?_map, hx]; rfl)
      have HY : Hid ((b.map (fun p : GlbT => (p.1, p.2.1, p.2.2.1)))[k]? = some ((fun p : GlbT => (p.1, p.2.1, p.2.2.1)) p2)) := Lib.hid (by rw [List.getElem?_map, hy]; rfl)
      have HP1 := Lib.hid (List.mem_of_getElem? hx)
      have HP2 := Lib.hid (List.mem_of_getElem? hy)
      obtain ⟨g1, f1, rfl, hg1, hA1, hok1⟩ := (HA.out.keep HW.out).at_ hx
      obtain ⟨g2, f2, rfl, hg2, hA2, hok2⟩ := (HB.out.keep HW.out).at_ hy
      rw [show (elG.s) = 7 from rfl] at hA1 hA2
      have q0 := hA1 0 (.int .u8 p1.1) rfl
      have q1 := hA1 1 (.bool p1.2.1) rfl
      have q2 := hA1 2 (.int .i64 p1.2.2.1.op) rfl
      have q3 := hA1 3 (.int .i64 p1.2.2.1.A) rfl
      have q4 := hA1 4 (.int .i64 p1.2.2.1.B) rfl
      have q5 := hA1 5 (.int .u64 p1.2.2.1.K) rfl
      have q6 := hA1 6 p1.2.2.2 rfl
      have r0 := hA2 0 (.int .u8 p2.1) rfl
      have r1 := hA2 1 (.bool p2.2.1) rfl
      have r2 := hA2 2 (.int .i64 p2.2.2.1.op) rfl
      have r3 := hA2 3 (.int .i64 p2.2.2.1.A) rfl
      have r4 := hA2 4 (.int .i64 p2.2.2.1.B) rfl
      have r5 := hA2 5 (.int .u64 p2.2.2.1.K) rfl
      have r6 := hA2 6 p2.2.2.2 rfl
      rw [Nat.add_zero] at q0 r0
      have hO1 : elG.ok wr p1 := hok1
      have hO2 : elG.ok wr p2 := hok2
      have HONE2 := Lib.hid fun W (h : Below wr.heap.size wr W) => HONE.out W p1 p2 (HW.out.trans (h.mono HW.out.size)) HP1.out HP2.out (elG.stay hO1 h) (elG.stay hO2 h)
      clear hx hy hA1 hA2 hO1 hO2 hg1 hg2
      obtain ⟨v1, hv1⟩ : ∃ v, (fun p : GlbT => (p.1, p.2.1, p.2.2.1)) p1 = v := ⟨_, rfl⟩
      obtain ⟨v2, hv2⟩ : ∃ v, (fun p : GlbT => (p.1, p.2.1, p.2.2.1)) p2 = v := ⟨_, rfl⟩
      dsimp only at HX HY hv1 hv2
      rw [hv1] at HX HONE2
      rw [hv2] at HY HONE2
      clear hv1 hv2 HP1 HP2
      obtain ⟨x01, x11, ⟨⟨op1, A1, B1, K1, L1⟩, c61⟩⟩ := p1
      obtain ⟨_, ⟨A01, k01, e01, _⟩, _⟩ := id hok1
      simp only at e01
      obtain ⟨n01, hn01⟩ : ∃ m, L1.length = m := ⟨_, rfl⟩
      rw [hn01] at e01
      subst e01
      obtain ⟨x02, x12, ⟨⟨op2, A2, B2, K2, L2⟩, c62⟩⟩ := p2
      obtain ⟨_, ⟨A02, k02, e02, _⟩, _⟩ := id hok2
      simp only at e02
      obtain ⟨n02, hn02⟩ : ∃ m, L2.length = m := ⟨_, rfl⟩
      rw [hn02] at e02
      subst e02
      have hin1 : (0 : Int) ≤ (k : Int) := by omega
      have hin2 : (k : Int) < (n : Int) := by omega
      have hw1 : IntKind.i64.wrap ((k : Int) + 1) = (k : Int) + 1 := IntWalk.i64_in _ (by omega)
      have hb1 := (Below.refl wr.heap.size wr).alloc (Nat.le_refl _) (.cells #[.int .u8 x01, .bool x11, .int .i64 op1, .int .i64 A1, .int .i64 B1, .int .u64 K1, .slice A01 n01 k01] 69)
      have hb2 := hb1.alloc hb1.size (.cells #[.int .u8 x02, .bool x12, .int .i64 op2, .int .i64 A2, .int .i64 B2, .int .u64 K2, .slice A02 n02 k02] 69)
      have HB2 := Lib.hid hb2
      have HCS := Lib.hid (HONE2.out _ hb2)
      have r0' := Lib.cell?_alloc_some (.cells #[.int .u8 x01, .bool x11, .int .i64 op1, .int .i64 A1, .int .i64 B1, .int .u64 K1, .slice A01 n01 k01] 69) r0
      have r1' := Lib.cell?_alloc_some (.cells #[.int .u8 x01, .bool x11, .int .i64 op1, .int .i64 A1, .int .i64 B1, .int .u64 K1, .slice A01 n01 k01] 69) r1
      have r2' := Lib.cell?_alloc_some (.cells #[.int .u8 x01, .bool x11, .int .i64 op1, .int .i64 A1, .int .i64 B1, .int .u64 K1, .slice A01 n01 k01] 69) r2
      have r3' := Lib.cell?_alloc_some (.cells #[.int .u8 x01, .bool x11, .int .i64 op1, .int .i64 A1, .int .i64 B1, .int .u64 K1, .slice A01 n01 k01] 69) r3
      have r4' := Lib.cell?_alloc_some (.cells #[.int .u8 x01, .bool x11, .int .i64 op1, .int .i64 A1, .int .i64 B1, .int .u64 K1, .slice A01 n01 k01] 69) r4
      have r5' := Lib.cell?_alloc_some (.cells #[.int .u8 x01, .bool x11, .int .i64 op1, .int .i64 A1, .int .i64 B1, .int .u64 K1, .slice A01 n01 k01] 69) r5
      have r6' := Lib.cell?_alloc_some (.cells #[.int .u8 x01, .bool x11, .int .i64 op1, .int .i64 A1, .int .i64 B1, .int .u64 K1, .slice A01 n01 k01] 69) r6
      clear hb1 hb2 HONE2 hok1 hok2
      go_wp2_with fail
      refine HCS.out.mono ?_
      rintro e w1 ⟨⟨r, rfl, hr⟩, hb⟩
      have HW1 := Lib.hid (HW.out.trans ((HB2.out.trans (hb.mono HB2.out.size)).mono HW.out.size))
      have HR := Lib.hid hr
      clear hb hr HCS HB2 q0 r0 r0' q1 r1 r1' q2 r2 r2' q3 r3 r3' q4 r4 r4' q5 r5 r5' q6 r6 r6'
      cases r with
      | false =>
        have HQ : Hid (false = true ↔ a.map (fun p : GlbT => (p.1, p.2.1, p.2.2.1)) = b.map (fun p : GlbT => (p.1, p.2.1, p.2.2.1))) := ⟨fun h => (by cases h), fun h => by
          have h1 := HX.out
          rw [h, HY.out] at h1
          exact HR.out.2 (Option.some.inj h1).symm⟩
        go_wp2_with fail
        exact bodyPost_ret (v := .bool false) (by simp [results, Tryz.results53, go_sem]) rfl ⟨⟨_, rfl, HQ.out⟩, HW1.out⟩
      | true =>
        have HQ : Hid (∀ i, i < k + 1 → (a.map (fun p : GlbT => (p.1, p.2.1, p.2.2.1)))[i]? = (b.map (fun p : GlbT => (p.1, p.2.1, p.2.2.1)))[i]?) := fun i hi => by
          by_cases e : i = k
          · subst e
            rw [HX.out, HY.out, HR.out.1 rfl]
          · exact HALL.out i (by omega)
        go_wp2_with fail
        go_roundw
        case rel => exact ⟨k + 1, by go_num, hlt, HQ.out, HW1.out⟩
        case measure => simp [intOf]; omega
    · have hkn : k = n := by omega
      subst hkn
      have HQ : Hid (true = true ↔ a.map (fun p : GlbT => (p.1, p.2.1, p.2.2.1)) = b.map (fun p : GlbT => (p.1, p.2.1, p.2.2.1))) := ⟨fun _ => by
        apply List.ext_getElem?
        intro i
        by_cases hi : i < k
        · exact HALL.out i hi
        · rw [List.getElem?_eq_none (by rw [List.length_map, HN.out]; omega), List.getElem?_eq_none (by rw [List.length_map, HM.out]; omega)], fun _ => rfl⟩
      go_wp2_with fail
      exact bodyPost_ret (v := .bool true) (by simp [results, Tryz.results53, go_sem]) rfl ⟨by first | exact ⟨_, rfl, HQ.out⟩ | exact .inr ⟨rfl, by have h := HQ.out; simpa using h⟩, HW.out⟩
theorem peq_GlobalDef {a b : List GlbT} {u v : Value} {w : World} (hbig : a.length ≤ 100000) (ha : RowG.Row elG w u a) (hb : RowG.Row elG w v b)
    (hone : ∀ W p q, Below w.heap.size w W → p ∈ a → q ∈ b → elG.ok W p → elG.ok W q → Calls Tryz.prog 54 #[(fun p : GlbT => .agg #[.int .u8 p.1, .bool p.2.1, .int .i64 p.2.2.1.op, .int .i64 p.2.2.1.A, .int .i64 p.2.2.1.B, .int .u64 p.2.2.1.K, p.2.2.2]) p, (fun p : GlbT => .agg #[.int .u8 p.1, .bool p.2.1, .int .i64 p.2.2.1.op, .int .i64 p.2.2.1.A, .int .i64 p.2.2.1.B, .int .u64 p.2.2.1.K, p.2.2.2]) q] W fun e w' => (∃ r : Bool, e = .returned (.bool r) ∧ (r = true ↔ (fun p : GlbT => (p.1, p.2.1, p.2.2.1)) p = (fun p : GlbT => (p.1, p.2.1, p.2.2.1)) q)) ∧ Below W.heap.size W w') :
    Calls Tryz.prog 53 #[u, v, .func (.func 54) #[] #[]] w fun e w' => (∃ r : Bool, e = .returned (.bool r) ∧ (r = true ↔ a.map (fun p : GlbT => (p.1, p.2.1, p.2.2.1)) = b.map (fun p : GlbT => (p.1, p.2.1, p.2.2.1)))) ∧ Below w.heap.size w w' := by
  obtain ⟨A, c, rfl⟩ := row_len ha
  obtain ⟨B, d, rfl⟩ := row_len hb
  by_cases h : a.length = b.length
  · rw [← h] at hb ⊢
    exact pqf_GlobalDef rfl h.symm hbig ha hb hone
  · have HQ : Hid (false = true ↔ a.map (fun p : GlbT => (p.1, p.2.1, p.2.2.1)) = b.map (fun p : GlbT => (p.1, p.2.1, p.2.2.1))) := ⟨fun h => (by cases h), fun e => by
      have := congrArg List.length e
      rw [List.length_map, List.length_map] at this
      exact absurd this h⟩
    obtain ⟨n, hn⟩ : ∃ n, a.length = n := ⟨_, rfl⟩
    obtain ⟨m, hm⟩ : ∃ n, b.length = n := ⟨_, rfl⟩
    rw [hn, hm] at h ⊢
    have t1 : ((n : Int) != (m : Int)) = true := by simp; omega
    have t1' : (n != m) = true := by simpa using h
    clear h hn hm ha hb hone hbig
    go_enter Tryz.func53, Tryz.ntmps53
    go_wp2_with fail
    exact bodyPost_ret (v := .bool false) (by simp [results, Tryz.results53, go_sem]) rfl ⟨⟨_, rfl, HQ.out⟩, Below.refl _ _⟩
end Go.Proofs.YtffegkjlgeblbaaGreatDoor.Mdl
end

section
/- Are two lists of Elem the same, by the program: walked. -/
namespace Go.Proofs.YtffegkjlgeblbaaGreatDoor.Mdl
open Go.RowKit Ints Typ Ins
set_option maxRecDepth 100000
set_option maxHeartbeats 4000000
set_option linter.unusedVariables false
theorem pqf_Elem {a b : List ElmT} {A B : Option Addr} {n c d : Nat} {w : World} (hn1 : a.length = n) (hn2 : b.length = n) (hbig : n ≤ 100000) (ha : RowG.Row elE w (.slice A n c) a) (hb : RowG.Row elE w (.slice B n d) b)
    (hone : ∀ W p q, Below w.heap.size w W → p ∈ a → q ∈ b → elE.ok W p → elE.ok W q → Calls Tryz.prog 57 #[(fun p : ElmT => .agg #[.int .i64 p.1.1.op, .int .i64 p.1.1.A, .int .i64 p.1.1.B, .int .u64 p.1.1.K, p.1.2, p.2.2]) p, (fun p : ElmT => .agg #[.int .i64 p.1.1.op, .int .i64 p.1.1.A, .int .i64 p.1.1.B, .int .u64 p.1.1.K, p.1.2, p.2.2]) q] W fun e w' => (∃ r : Bool, e = .returned (.bool r) ∧ (r = true ↔ (fun p : ElmT => (p.1.1, p.2.1)) p = (fun p : ElmT => (p.1.1, p.2.1)) q)) ∧ Below W.heap.size W w') :
    Calls Tryz.prog 56 #[.slice A n c, .slice B n d, .func (.func 57) #[] #[]] w fun e w' => (∃ r : Bool, e = .returned (.bool r) ∧ (r = true ↔ a.map (fun p : ElmT => (p.1.1, p.2.1)) = b.map (fun p : ElmT => (p.1.1, p.2.1)))) ∧ Below w.heap.size w w' := by
  have hrun : ∀ args W, (callFunc 57 args).run Tryz.prog W = .ok (.enter 57 args) W := fun args W => Stab.run_enter Tryz.func57 (by kernel_rfl) rfl args W
  have HN := Lib.hid hn1
  have HM := Lib.hid hn2
  have HA := Lib.hid ha
  have HB := Lib.hid hb
  have HONE := Lib.hid hone
  clear hn1 hn2 ha hb hone
  go_enter Tryz.func56, Tryz.ntmps56
  go_wp2_with fail
  go_loopw [17] (fun j' wr => ∃ k : Nat, j' = .int .i64 (k : Int) ∧ k ≤ n ∧ (∀ i, i < k → (a.map (fun p : ElmT => (p.1.1, p.2.1)))[i]? = (b.map (fun p : ElmT => (p.1.1, p.2.1)))[i]?) ∧ Below w.heap.size w wr) (fun j' _ => n - (intOf j').toNat)
  case atStart => exact ⟨0, by go_num, Nat.zero_le _, fun i hi => absurd hi (by omega), Below.refl _ _⟩
  case round =>
    obtain ⟨k, rfl, hk, ht, hW⟩ := hrel
    have HALL := Lib.hid ht
    have HW := Lib.hid hW
    clear ht hW
    by_cases hlt : k < n
    · obtain ⟨p1, hx⟩ : ∃ y, a[k]? = some y := ⟨_, List.getElem?_eq_getElem (by rw [HN.out]; exact hlt)⟩
      obtain ⟨p2, hy⟩ : ∃ y, b[k]? = some y := ⟨_, List.getElem?_eq_getElem (by rw [HM.out]; exact hlt)⟩
      have HX : Hid ((a.map (fun p : ElmT => (p.1.1, p.2.1)))[k]? = some ((fun p : ElmT => (p.1.1, p.2.1)) p1)) := Lib.hid (by rw [List.getElem?_map, hx]; rfl)
      have HY : Hid ((b.map (fun p : ElmT => (p.1.1, p.2.1)))[k]? = some ((fun p : ElmT => (p.1.1, p.2.1)) p2)) := Lib.hid (by rw [List.getElem?_map, hy]; rfl)
      have HP1 := Lib.hid (List.mem_of_getElem? hx)
      have HP2 := Lib.hid (List.mem_of_getElem? hy)
      obtain ⟨g1, f1, rfl, hg1, hA1, hok1⟩ := (HA.out.keep HW.out).at_ hx
      obtain ⟨g2, f2, rfl, hg2, hA2, hok2⟩ := (HB.out.keep HW.out).at_ hy
      rw [show (elE.s) = 6 from rfl] at hA1 hA2
      have q0 := hA1 0 (.int .i64 p1.1.1.op) rfl
      have q1 := hA1 1 (.int .i64 p1.1.1.A) rfl
      have q2 := hA1 2 (.int .i64 p1.1.1.B) rfl
      have q3 := hA1 3 (.int .u64 p1.1.1.K) rfl
      have q4 := hA1 4 p1.1.2 rfl
      have q5 := hA1 5 p1.2.2 rfl
      have r0 := hA2 0 (.int .i64 p2.1.1.op) rfl
      have r1 := hA2 1 (.int .i64 p2.1.1.A) rfl
      have r2 := hA2 2 (.int .i64 p2.1.1.B) rfl
      have r3 := hA2 3 (.int .u64 p2.1.1.K) rfl
      have r4 := hA2 4 p2.1.2 rfl
      have r5 := hA2 5 p2.2.2 rfl
      rw [Nat.add_zero] at q0 r0
      have hO1 : elE.ok wr p1 := hok1
      have hO2 : elE.ok wr p2 := hok2
      have HONE2 := Lib.hid fun W (h : Below wr.heap.size wr W) => HONE.out W p1 p2 (HW.out.trans (h.mono HW.out.size)) HP1.out HP2.out (elE.stay hO1 h) (elE.stay hO2 h)
      clear hx hy hA1 hA2 hO1 hO2 hg1 hg2
      obtain ⟨v1, hv1⟩ : ∃ v, (fun p : ElmT => (p.1.1, p.2.1)) p1 = v := ⟨_, rfl⟩
      obtain ⟨v2, hv2⟩ : ∃ v, (fun p : ElmT => (p.1.1, p.2.1)) p2 = v := ⟨_, rfl⟩
      dsimp only at HX HY hv1 hv2
      rw [hv1] at HX HONE2
      rw [hv2] at HY HONE2
      clear hv1 hv2 HP1 HP2
      obtain ⟨⟨⟨op1, A1, B1, K1, L1⟩, c41⟩, ⟨x11, c51⟩⟩ := p1
      obtain ⟨⟨⟨A01, k01, e01, _⟩, _⟩, ⟨A11, k11, e11, _⟩⟩ := id hok1
      simp only at e01 e11
      obtain ⟨n01, hn01⟩ : ∃ m, L1.length = m := ⟨_, rfl⟩
      obtain ⟨n11, hn11⟩ : ∃ m, x11.length = m := ⟨_, rfl⟩
      rw [hn01] at e01
      rw [hn11] at e11
      subst e01 e11
      obtain ⟨⟨⟨op2, A2, B2, K2, L2⟩, c42⟩, ⟨x12, c52⟩⟩ := p2
      obtain ⟨⟨⟨A02, k02, e02, _⟩, _⟩, ⟨A12, k12, e12, _⟩⟩ := id hok2
      simp only at e02 e12
      obtain ⟨n02, hn02⟩ : ∃ m, L2.length = m := ⟨_, rfl⟩
      obtain ⟨n12, hn12⟩ : ∃ m, x12.length = m := ⟨_, rfl⟩
      rw [hn02] at e02
      rw [hn12] at e12
      subst e02 e12
      have hin1 : (0 : Int) ≤ (k : Int) := by omega
      have hin2 : (k : Int) < (n : Int) := by omega
      have hw1 : IntKind.i64.wrap ((k : Int) + 1) = (k : Int) + 1 := IntWalk.i64_in _ (by omega)
      have hb1 := (Below.refl wr.heap.size wr).alloc (Nat.le_refl _) (.cells #[.int .i64 op1, .int .i64 A1, .int .i64 B1, .int .u64 K1, .slice A01 n01 k01, .slice A11 n11 k11] 87)
      have hb2 := hb1.alloc hb1.size (.cells #[.int .i64 op2, .int .i64 A2, .int .i64 B2, .int .u64 K2, .slice A02 n02 k02, .slice A12 n12 k12] 87)
      have HB2 := Lib.hid hb2
      have HCS := Lib.hid (HONE2.out _ hb2)
      have r0' := Lib.cell?_alloc_some (.cells #[.int .i64 op1, .int .i64 A1, .int .i64 B1, .int .u64 K1, .slice A01 n01 k01, .slice A11 n11 k11] 87) r0
      have r1' := Lib.cell?_alloc_some (.cells #[.int .i64 op1, .int .i64 A1, .int .i64 B1, .int .u64 K1, .slice A01 n01 k01, .slice A11 n11 k11] 87) r1
      have r2' := Lib.cell?_alloc_some (.cells #[.int .i64 op1, .int .i64 A1, .int .i64 B1, .int .u64 K1, .slice A01 n01 k01, .slice A11 n11 k11] 87) r2
      have r3' := Lib.cell?_alloc_some (.cells #[.int .i64 op1, .int .i64 A1, .int .i64 B1, .int .u64 K1, .slice A01 n01 k01, .slice A11 n11 k11] 87) r3
      have r4' := Lib.cell?_alloc_some (.cells #[.int .i64 op1, .int .i64 A1, .int .i64 B1, .int .u64 K1, .slice A01 n01 k01, .slice A11 n11 k11] 87) r4
      have r5' := Lib.cell?_alloc_some (.cells #[.int .i64 op1, .int .i64 A1, .int .i64 B1, .int .u64 K1, .slice A01 n01 k01, .slice A11 n11 k11] 87) r5
      clear hb1 hb2 HONE2 hok1 hok2
      go_wp2_with fail
      refine HCS.out.mono ?_
      rintro e w1 ⟨⟨r, rfl, hr⟩, hb⟩
      have HW1 := Lib.hid (HW.out.trans ((HB2.out.trans (hb.mono HB2.out.size)).mono HW.out.size))
      have HR := Lib.hid hr
      clear hb hr HCS HB2 q0 r0 r0' q1 r1 r1' q2 r2 r2' q3 r3 r3' q4 r4 r4' q5 r5 r5'
      cases r with
      | false =>
        have HQ : Hid (false = true ↔ a.map (fun p : ElmT => (p.1.1, p.2.1)) = b.map (fun p : ElmT => (p.1.1, p.2.1))) := ⟨fun h => (by cases h), fun h => by
          have h1 := HX.out
          rw [h, HY.out] at h1
          exact HR.out.2 (Option.some.inj h1).symm⟩
        go_wp2_with fail
        exact bodyPost_ret (v := .bool false) (by simp [results, Tryz.results56, go_sem]) rfl ⟨⟨_, rfl, HQ.out⟩, HW1.out⟩
      | true =>
        have HQ : Hid (∀ i, i < k + 1 → (a.map (fun p : ElmT => (p.1.1, p.2.1)))[i]? = (b.map (fun p : ElmT => (p.1.1, p.2.1)))[i]?) := fun i hi => by
          by_cases e : i = k
          · subst e
            rw [HX.out, HY.out, HR.out.1 rfl]
          · exact HALL.out i (by omega)
        go_wp2_with fail
        go_roundw
        case rel => exact ⟨k + 1, by go_num, hlt, HQ.out, HW1.out⟩
        case measure => simp [intOf]; omega
    · have hkn : k = n := by omega
      subst hkn
      have HQ : Hid (true = true ↔ a.map (fun p : ElmT => (p.1.1, p.2.1)) = b.map (fun p : ElmT => (p.1.1, p.2.1))) := ⟨fun _ => by
        apply List.ext_getElem?
        intro i
        by_cases hi : i < k
        · exact HALL.out i hi
        · rw [List.getElem?_eq_none (by rw [List.length_map, HN.out]; omega), List.getElem?_eq_none (by rw [List.length_map, HM.out]; omega)], fun _ => rfl⟩
      go_wp2_with fail
      exact bodyPost_ret (v := .bool true) (by simp [results, Tryz.results56, go_sem]) rfl ⟨by first | exact ⟨_, rfl, HQ.out⟩ | exact .inr ⟨rfl, by have h := HQ.out; simpa using h⟩, HW.out⟩
theorem peq_Elem {a b : List ElmT} {u v : Value} {w : World} (hbig : a.length ≤ 100000) (ha : RowG.Row elE w u a) (hb : RowG.Row elE w v b)
    (hone : ∀ W p q, Below w.heap.size w W → p ∈ a → q ∈ b → elE.ok W p → elE.ok W q → Calls Tryz.prog 57 #[(fun p : ElmT => .agg #[.int .i64 p.1.1.op, .int .i64 p.1.1.A, .int .i64 p.1.1.B, .int .u64 p.1.1.K, p.1.2, p.2.2]) p, (fun p : ElmT => .agg #[.int .i64 p.1.1.op, .int .i64 p.1.1.A, .int .i64 p.1.1.B, .int .u64 p.1.1.K, p.1.2, p.2.2]) q] W fun e w' => (∃ r : Bool, e = .returned (.bool r) ∧ (r = true ↔ (fun p : ElmT => (p.1.1, p.2.1)) p = (fun p : ElmT => (p.1.1, p.2.1)) q)) ∧ Below W.heap.size W w') :
    Calls Tryz.prog 56 #[u, v, .func (.func 57) #[] #[]] w fun e w' => (∃ r : Bool, e = .returned (.bool r) ∧ (r = true ↔ a.map (fun p : ElmT => (p.1.1, p.2.1)) = b.map (fun p : ElmT => (p.1.1, p.2.1)))) ∧ Below w.heap.size w w' := by
  obtain ⟨A, c, rfl⟩ := row_len ha
  obtain ⟨B, d, rfl⟩ := row_len hb
  by_cases h : a.length = b.length
  · rw [← h] at hb ⊢
    exact pqf_Elem rfl h.symm hbig ha hb hone
  · have HQ : Hid (false = true ↔ a.map (fun p : ElmT => (p.1.1, p.2.1)) = b.map (fun p : ElmT => (p.1.1, p.2.1))) := ⟨fun h => (by cases h), fun e => by
      have := congrArg List.length e
      rw [List.length_map, List.length_map] at this
      exact absurd this h⟩
    obtain ⟨n, hn⟩ : ∃ n, a.length = n := ⟨_, rfl⟩
    obtain ⟨m, hm⟩ : ∃ n, b.length = n := ⟨_, rfl⟩
    rw [hn, hm] at h ⊢
    have t1 : ((n : Int) != (m : Int)) = true := by simp; omega
    have t1' : (n != m) = true := by simpa using h
    clear h hn hm ha hb hone hbig
    go_enter Tryz.func56, Tryz.ntmps56
    go_wp2_with fail
    exact bodyPost_ret (v := .bool false) (by simp [results, Tryz.results56, go_sem]) rfl ⟨⟨_, rfl, HQ.out⟩, Below.refl _ _⟩
end Go.Proofs.YtffegkjlgeblbaaGreatDoor.Mdl
end
