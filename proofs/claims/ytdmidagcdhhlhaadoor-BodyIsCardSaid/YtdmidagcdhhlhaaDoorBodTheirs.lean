/- Matches as the document's, and are they the same: walked. -/
import Derived.Test.YtdmidagcdhhlhaaDoorBodNesteds
namespace Go.Proofs.YtdmidagcdhhlhaaDoor.Bod
open Go.RowKit Ints Typ Ins
set_option maxRecDepth 100000
set_option maxHeartbeats 2000000
set_option linter.unusedVariables false
/-- 'append(s, p)' on pairs of the call's own, as a step of a region that draws its order. -/
theorem step_P {ops : Array Oper} {o : Oper} {a : Act} {K : Act → World → Prop} {Q : Exit → Act → World → Prop} {E : Prop} (e t : TypeId) (ht : Tryd.prog.underlying t = some (.slice e)) (hi : (Tryd.prog.info? e).map (fun i => (i.zero, i.size, i.bytes)) = some (some (.agg #[.int .i64 0, .int .i64 0]), 2, 16)) (w : World) (hgd : o.guard = none) (s x : Operand)
    (ho : o.op = .call { callee := .builtin .append, args := #[s, x], argTypes := #[t, t] }) (B : Nat) (v : Value) (done : List (Int × Int)) (p : Int × Int) (hs : a.eval s = v) (hown : OwnP e w B v done)
    (hx : a.eval x = .slice (some ⟨w.heap.size, 0, none⟩) 1 1) (hlen : done.length ≤ 1000000) (hB : B ≤ w.heap.size)
    (h : ∀ g c w', OwnP e w' B (.slice (some ⟨g, 0, none⟩) (done ++ [p]).length c) (done ++ [p]) → Below B w w' → K (a.put o.dst (.slice (some ⟨g, 0, none⟩) (done ++ [p]).length c)) w') : if Region.wanted o (yielded ops a.tmps) = true then Oper.wp Tryd.prog o a (w.alloc (.cells #[.int .i64 p.1, .int .i64 p.2] e)) K Q else E := by
  have hw : Region.wanted o (yielded ops a.tmps) = true := by simp [Region.wanted, hgd]
  rw [if_pos hw]
  obtain ⟨i0, hi, hz0, hz1, hz2⟩ := info_parts hi
  refine wp_append_own _ s x t ho B e i0 (.agg #[.int .i64 0, .int .i64 0]) 2 16 ht hi hz0 hz1 hz2 rfl (by decide) v _ _ hs (World.ownsRow.alloc hown _) ⟨w.heap.size, 0, none⟩ 1 1 (c2 p) hx rfl (new2 e w p) ?_ (by simp only [maxLen]; omega) (by omega) (by simp; omega) ?_
  · intro u hu
    simp only [c2, List.mem_cons, List.not_mem_nil, or_false] at hu
    rcases hu with rfl | rfl <;> rfl
  · intro v' w' ho' hg hn
    have ho2 : OwnP e w' B v' (done ++ [p]) := by
      have ho3 : w'.ownsRow B e 2 v' (done ++ [p]).length ((done ++ [p]).flatMap c2) := by
        rw [List.flatMap_append, List.length_append]
        simpa using ho'
      exact ho3
    obtain ⟨g, c, e1, _⟩ := OwnP.shape ho2 (j := 0) (by simp)
    subst e1
    exact h g c w' ho2 (((Below.refl _ _).alloc hB _).grown hg (by simp; omega) (fun k hk => (World.ownsRow.lt hown k hk).1))
theorem theirs_any {vM : Value} {ms : List (Int × Int)} {B : Nat} {w : World} (hl : ms.length ≤ 80000) (hm : OwnP 52 w B vM ms) :
    Calls Tryd.prog 20 #[vM] w fun e w' => (∃ v, e = .returned v ∧ OwnP 60 w' w.heap.size v ms) ∧ Below w.heap.size w w' := by
  obtain ⟨PM, cM, hv⟩ := OwnP.form hm
  obtain ⟨n, hn⟩ : ∃ n, ms.length = n := ⟨_, rfl⟩
  rw [hn] at hv hl
  subst hv
  have HM := Lib.hid hm
  have HN := Lib.hid hn
  clear hm hn
  go_enter Tryd.func20, Tryd.ntmps20
  go_wp2_with fail
  go_loopw [3, 4] (fun v i' wr => ∃ i : Nat, i' = .int .i64 (i : Int) ∧ i ≤ n ∧ OwnP 60 wr w.heap.size v (ms.take i) ∧ Below w.heap.size w wr) (fun _ i' _ => n - (intOf i').toNat)
  case atStart => exact ⟨0, by go_num, by omega, ownP_nil _ _ _, Below.refl _ _⟩
  case round =>
    obtain ⟨i, rfl, hi, hO, hW⟩ := hrel
    have HO := Lib.hid hO
    have HW := Lib.hid hW
    clear hO hW
    obtain ⟨PV, cV, hv⟩ := OwnP.form HO.out
    rw [show (ms.take i).length = i from by rw [List.length_take, HN.out]; omega] at hv
    subst hv
    by_cases hlt : i < n
    · obtain ⟨gm, cm, hvm, _⟩ := OwnP.shape (own_keep HM.out HW.out) (j := i) (by rw [HN.out]; exact hlt)
      have m1' := (Value.slice.inj hvm).1
      subst m1'
      clear hvm
      have hc := OwnP.cells (own_keep (own_keep HM.out HW.out) (drewB wr)) (j := i) (by rw [HN.out]; exact hlt)
      obtain ⟨r1, r2⟩ := hc
      have HTK := Lib.hid (show ms.take (i + 1) = ms.take i ++ [ms.getD i (0, 0)] by rw [List.take_add_one, List.getD_eq_getElem?_getD, List.getElem?_eq_getElem (by rw [HN.out]; exact hlt)]; rfl)
      obtain ⟨pr, hpr⟩ : ∃ p, ms.getD i (0, 0) = p := ⟨_, rfl⟩
      rw [hpr] at r1 r2 HTK
      clear hpr
      obtain ⟨p1, p2⟩ := pr
      simp only at r1 r2
      obtain ⟨D, hD⟩ : ∃ D, ms.take i = D := ⟨_, rfl⟩
      have hDl : D.length = i := by rw [← hD, List.length_take, HN.out]; omega
      rw [hD] at HTK HO
      clear hD
      have HO2 := Lib.hid (show OwnP 60 wr.drew w.heap.size (.slice PV i cV) D from own_keep HO.out (drewB wr))
      have HL2 : Hid (w.heap.size ≤ wr.heap.size) := HW.out.size
      have i1 : (0 : Int) ≤ (i : Int) := by omega
      have i2 : (i : Int) < (n : Int) := by omega
      have hw1 : IntKind.i64.wrap ((i : Int) + 1) = (i : Int) + 1 := IntWalk.i64_in _ (by omega)
      go_wp2_with fail
      go_region_law (refine step_P 60 29 Tryd.underlying29 match_info wr.drew rfl (.tmp 11) (.tmp 23) rfl w.heap.size _ D (p1, p2) (by rfl) HO2.out (by rfl) (by omega) HL2.out ?_; intro g7 c7 w7 ho7 hb7)
      all_goals (
        rw [show (D ++ [(p1, p2)]).length = i + 1 from by simp [hDl], ← HTK.out] at ho7
        have HO7 := Lib.hid ho7
        have HB7 := Lib.hid ((HW.out.trans (drewB' wr HL2.out)).trans hb7)
        clear ho7 hb7 r1 r2
        go_wp2_with fail
        go_roundw
        case rel => exact ⟨i + 1, by go_num, hlt, HO7.out, HB7.out⟩
        case measure => simp [intOf]; omega)
    · have hin : i = n := by omega
      subst hin
      have e : ms.take i = ms := by rw [← HN.out]; exact List.take_length
      rw [e] at HO
      clear e
      go_wp2_with fail
      exact bodyPost_ret (v := .slice PV i cV) (by simp [results, Tryd.results20, go_sem]) rfl ⟨⟨_, rfl, HO.out⟩, HW.out⟩
theorem equal_any {v u : Value} {ms : List (Int × Int)} {B B' : Nat} {w : World} (hl : ms.length ≤ 80000) (h1 : OwnP 60 w B v ms) (h2 : OwnP 60 w B' u ms) :
    Calls Tryd.prog 19 #[v, u] w fun e w' => e = .returned (.bool true) ∧ Below w.heap.size w w' := by
  obtain ⟨P1, c1, hv⟩ := OwnP.form h1
  obtain ⟨P2, c2', hu⟩ := OwnP.form h2
  obtain ⟨n, hn⟩ : ∃ n, ms.length = n := ⟨_, rfl⟩
  rw [hn] at hv hu hl
  subst hv hu
  have H1 := Lib.hid h1
  have H2 := Lib.hid h2
  have HN := Lib.hid hn
  clear h1 h2 hn
  go_enter Tryd.func19, Tryd.ntmps19
  go_wp2_with fail
  go_loopw [5] (fun i' wr => ∃ i : Nat, i' = .int .i64 (i : Int) ∧ i ≤ n ∧ Below w.heap.size w wr) (fun i' _ => n - (intOf i').toNat)
  case atStart => exact ⟨0, by go_num, by omega, Below.refl _ _⟩
  case round =>
    obtain ⟨i, rfl, hi, hW⟩ := hrel
    have HW := Lib.hid hW
    clear hW
    by_cases hlt : i < n
    · obtain ⟨g1, d1, hv1, _⟩ := OwnP.shape (own_keep H1.out HW.out) (j := i) (by rw [HN.out]; exact hlt)
      obtain ⟨g2, d2, hv2, _⟩ := OwnP.shape (own_keep H2.out HW.out) (j := i) (by rw [HN.out]; exact hlt)
      have m1 := (Value.slice.inj hv1).1
      have m2 := (Value.slice.inj hv2).1
      subst m1 m2
      clear hv1 hv2
      obtain ⟨r1, r2⟩ := OwnP.cells (own_keep H1.out HW.out) (j := i) (by rw [HN.out]; exact hlt)
      obtain ⟨s1, s2⟩ := OwnP.cells (own_keep H2.out HW.out) (j := i) (by rw [HN.out]; exact hlt)
      generalize (ms.getD i (0, 0)).1 = pa at r1 s1
      generalize (ms.getD i (0, 0)).2 = pb at r2 s2
      have i1 : (0 : Int) ≤ (i : Int) := by omega
      have i2 : (i : Int) < (n : Int) := by omega
      have hw1 : IntKind.i64.wrap ((i : Int) + 1) = (i : Int) + 1 := IntWalk.i64_in _ (by omega)
      go_wp2_with fail
      go_quiet (fail)
      go_wp2_with fail
      go_roundw
      case rel => exact ⟨i + 1, by go_num, hlt, HW.out.trans (drewNB _ _ HW.out.size)⟩
      case measure => simp [intOf]; omega
    · have hin : i = n := by omega
      subst hin
      go_wp2_with fail
      exact bodyPost_ret (v := .bool true) (by simp [results, Tryd.results19, go_sem]) rfl ⟨rfl, HW.out⟩
end Go.Proofs.YtdmidagcdhhlhaaDoor.Bod
