/- Sections as the document's, and back: walked. -/
import Derived.Test.YtkdnhhhgggmapaaSecPF
namespace Go.Proofs.Ytkdnhhhgggmapaa.Sec
open Go.RowKit Utf
set_option maxRecDepth 100000
set_option maxHeartbeats 4000000
set_option linter.unusedVariables false
/-- 'append(s, p)' on sections of the call's own, as a step of a region that draws its order. -/
theorem step_S {ops : Array Oper} {o : Oper} {a : Act} {K : Act → World → Prop} {Q : Exit → Act → World → Prop} {E : Prop} (e t : TypeId) (ht : Try.prog.underlying t = some (.slice e)) (hi : (Try.prog.info? e).map (fun i => (i.zero, i.size, i.bytes)) = some (some (.agg #[.int .i64 0, .slice none 0 0]), 2, 32)) (w : World) (hgd : o.guard = none) (s x : Operand)
    (ho : o.op = .call { callee := .builtin .append, args := #[s, x], argTypes := #[t, t] }) (B : Nat) (v : Value) (done : List (Sct × Value)) (p : Sct × Value) (hp : ∃ P n c, p.2 = .slice P n c) (hs : a.eval s = v) (hown : OwnS e w B v done)
    (hx : a.eval x = .slice (some ⟨w.heap.size, 0, none⟩) 1 1) (hlen : done.length ≤ 1000000) (hB : B ≤ w.heap.size)
    (h : ∀ g c w', OwnS e w' B (.slice (some ⟨g, 0, none⟩) (done ++ [p]).length c) (done ++ [p]) → Below B w w' → K (a.put o.dst (.slice (some ⟨g, 0, none⟩) (done ++ [p]).length c)) w') : if Region.wanted o (yielded ops a.tmps) = true then Oper.wp Try.prog o a (w.alloc (.cells #[.int .i64 p.1.1, p.2] e)) K Q else E := by
  have hw : Region.wanted o (yielded ops a.tmps) = true := by simp [Region.wanted, hgd]
  rw [if_pos hw]
  obtain ⟨i0, hi, hz0, hz1, hz2⟩ := info_parts hi
  refine wp_append_own _ s x t ho B e i0 (.agg #[.int .i64 0, .slice none 0 0]) 2 32 ht hi hz0 hz1 hz2 rfl (by decide) v _ _ hs (World.ownsRow.alloc hown _) ⟨w.heap.size, 0, none⟩ 1 1 (s2 p) hx rfl (newS e w p) ?_ (by simp only [maxLen]; omega) (by omega) (by simp; omega) ?_
  · obtain ⟨P, n, c, e⟩ := hp
    intro u hu
    simp only [s2, e, List.mem_cons, List.not_mem_nil, or_false] at hu
    rcases hu with rfl | rfl <;> rfl
  · intro v' w' ho' hg hn
    have ho2 : OwnS e w' B v' (done ++ [p]) := by
      have ho3 : w'.ownsRow B e 2 v' (done ++ [p]).length ((done ++ [p]).flatMap s2) := by
        rw [List.flatMap_append, List.length_append]
        simpa using ho'
      exact ho3
    obtain ⟨_, ⟨_, h0⟩ | ⟨g, c, cur, hv, _⟩⟩ := id ho2
    · simp at h0
    · subst hv
      exact h g c w' ho2 (((Below.refl _ _).alloc hB _).grown hg (by simp; omega) (fun k hk => (World.ownsRow.lt hown k hk).1))
theorem ours_any {l : List (Sct × Value)} {A : Option Addr} {n c : Nat} {w : World} (hn : l.length = n) (hr : ScRow w (.slice A n c) l) (hl : n ≤ 80000) :
    Calls Try.prog 14 #[.slice A n c] w fun e w' => (∃ P c', e = .returned (.slice P n c') ∧ OwnS 40 w' w.heap.size (.slice P n c') l) ∧ Below w.heap.size w w' := by
  have HN := Lib.hid hn
  have HR := Lib.hid hr
  clear hn hr
  go_enter Try.func14, Try.ntmps14
  go_wp2_with fail
  go_loopw [3, 4] (fun v i' wr => ∃ i : Nat, i' = .int .i64 (i : Int) ∧ i ≤ n ∧ OwnS 40 wr w.heap.size v (l.take i) ∧ Below w.heap.size w wr) (fun _ i' _ => n - (intOf i').toNat)
  case atStart => exact ⟨0, by go_num, by omega, ownS_nil _ _ _, Below.refl _ _⟩
  case round =>
    obtain ⟨i, rfl, hi, hO, hW⟩ := hrel
    have HO := Lib.hid hO
    have HW := Lib.hid hW
    clear hO hW
    obtain ⟨PV, cV, hv⟩ := OwnS.form HO.out
    rw [show (l.take i).length = i from by rw [List.length_take, HN.out]; omega] at hv
    subst hv
    by_cases hlt : i < n
    · obtain ⟨y, hy⟩ : ∃ y, l[i]? = some y := ⟨_, List.getElem?_eq_getElem (by rw [HN.out]; exact hlt)⟩
      have HWD : Hid (Below w.heap.size w wr.drew) := Lib.hid (HW.out.trans ⟨rfl, rfl, rfl, Nat.le_refl _, fun _ _ => rfl⟩)
      obtain ⟨g, off, rfl, hC, hO0⟩ := (HR.out.keep HWD.out).at_ hy
      have HTK := Lib.hid (show l.take (i + 1) = l.take i ++ [y] by
        obtain ⟨h1, h2⟩ := List.getElem?_eq_some_iff.1 hy
        rw [List.take_succ_eq_append_getElem h1, h2])
      obtain ⟨P, cd, hp, _⟩ := id hO0.1
      obtain ⟨⟨x, B⟩, ov⟩ := y
      obtain ⟨r1, r2⟩ := hC
      simp only at r1 r2 hp
      obtain ⟨k, hk⟩ : ∃ k, B.length = k := ⟨_, rfl⟩
      rw [hk] at hp
      subst hp
      clear hy hO0 hk
      obtain ⟨D, hD⟩ : ∃ D, l.take i = D := ⟨_, rfl⟩
      have hDl : D.length = i := by rw [← hD, List.length_take, HN.out]; omega
      rw [hD] at HTK HO
      clear hD
      have HO2 := Lib.hid (show OwnS 40 wr.drew w.heap.size (.slice PV i cV) D from own_keep HO.out (drewB wr))
      have HL2 : Hid (w.heap.size ≤ wr.heap.size) := HW.out.size
      have i1 : (0 : Int) ≤ (i : Int) := by omega
      have i2 : (i : Int) < (n : Int) := by omega
      have hw1 : IntKind.i64.wrap ((i : Int) + 1) = (i : Int) + 1 := IntWalk.i64_in _ (by omega)
      go_wp2_with fail
      go_region_law (refine step_S 40 26 Try.underlying26 psect_info wr.drew rfl (.tmp 11) (.tmp 23) rfl w.heap.size _ D ((x, B), .slice P k cd) ⟨_, _, _, rfl⟩ (by rfl) HO2.out (by rfl) (by omega) HL2.out ?_; intro g7 c7 w7 ho7 hb7)
      all_goals (
        rw [show (D ++ [((x, B), Value.slice P k cd)]).length = i + 1 from by simp [hDl], ← HTK.out] at ho7
        have HO7 := Lib.hid ho7
        have HB7 := Lib.hid (HWD.out.trans hb7)
        clear ho7 hb7 r1 r2
        go_wp2_with fail
        go_roundw
        case rel => exact ⟨i + 1, by go_num, hlt, HO7.out, HB7.out⟩
        case measure => simp [intOf]; omega)
    · have hin : i = n := by omega
      subst hin
      have e : l.take i = l := by rw [← HN.out]; exact List.take_length
      rw [e] at HO
      clear e
      go_wp2_with fail
      exact bodyPost_ret (v := .slice PV i cV) (by simp [results, Try.results14, go_sem]) rfl ⟨⟨_, _, rfl, HO.out⟩, HW.out⟩
theorem theirs_any {l : List (Sct × Value)} {A : Option Addr} {n c : Nat} {w : World} (hn : l.length = n) (hr : ScRow w (.slice A n c) l) (hl : n ≤ 80000) :
    Calls Try.prog 21 #[.slice A n c] w fun e w' => (∃ P c', e = .returned (.slice P n c') ∧ OwnS 43 w' w.heap.size (.slice P n c') l) ∧ Below w.heap.size w w' := by
  have HN := Lib.hid hn
  have HR := Lib.hid hr
  clear hn hr
  go_enter Try.func21, Try.ntmps21
  go_wp2_with fail
  go_loopw [3, 4] (fun v i' wr => ∃ i : Nat, i' = .int .i64 (i : Int) ∧ i ≤ n ∧ OwnS 43 wr w.heap.size v (l.take i) ∧ Below w.heap.size w wr) (fun _ i' _ => n - (intOf i').toNat)
  case atStart => exact ⟨0, by go_num, by omega, ownS_nil _ _ _, Below.refl _ _⟩
  case round =>
    obtain ⟨i, rfl, hi, hO, hW⟩ := hrel
    have HO := Lib.hid hO
    have HW := Lib.hid hW
    clear hO hW
    obtain ⟨PV, cV, hv⟩ := OwnS.form HO.out
    rw [show (l.take i).length = i from by rw [List.length_take, HN.out]; omega] at hv
    subst hv
    by_cases hlt : i < n
    · obtain ⟨y, hy⟩ : ∃ y, l[i]? = some y := ⟨_, List.getElem?_eq_getElem (by rw [HN.out]; exact hlt)⟩
      have HWD : Hid (Below w.heap.size w wr.drew) := Lib.hid (HW.out.trans ⟨rfl, rfl, rfl, Nat.le_refl _, fun _ _ => rfl⟩)
      obtain ⟨g, off, rfl, hC, hO0⟩ := (HR.out.keep HWD.out).at_ hy
      have HTK := Lib.hid (show l.take (i + 1) = l.take i ++ [y] by
        obtain ⟨h1, h2⟩ := List.getElem?_eq_some_iff.1 hy
        rw [List.take_succ_eq_append_getElem h1, h2])
      obtain ⟨P, cd, hp, _⟩ := id hO0.1
      obtain ⟨⟨x, B⟩, ov⟩ := y
      obtain ⟨r1, r2⟩ := hC
      simp only at r1 r2 hp
      obtain ⟨k, hk⟩ : ∃ k, B.length = k := ⟨_, rfl⟩
      rw [hk] at hp
      subst hp
      clear hy hO0 hk
      obtain ⟨D, hD⟩ : ∃ D, l.take i = D := ⟨_, rfl⟩
      have hDl : D.length = i := by rw [← hD, List.length_take, HN.out]; omega
      rw [hD] at HTK HO
      clear hD
      have HO2 := Lib.hid (show OwnS 43 wr.drew w.heap.size (.slice PV i cV) D from own_keep HO.out (drewB wr))
      have HL2 : Hid (w.heap.size ≤ wr.heap.size) := HW.out.size
      have i1 : (0 : Int) ≤ (i : Int) := by omega
      have i2 : (i : Int) < (n : Int) := by omega
      have hw1 : IntKind.i64.wrap ((i : Int) + 1) = (i : Int) + 1 := IntWalk.i64_in _ (by omega)
      go_wp2_with fail
      go_region_law (refine step_S 43 23 Try.underlying23 sect_info wr.drew rfl (.tmp 11) (.tmp 23) rfl w.heap.size _ D ((x, B), .slice P k cd) ⟨_, _, _, rfl⟩ (by rfl) HO2.out (by rfl) (by omega) HL2.out ?_; intro g7 c7 w7 ho7 hb7)
      all_goals (
        rw [show (D ++ [((x, B), Value.slice P k cd)]).length = i + 1 from by simp [hDl], ← HTK.out] at ho7
        have HO7 := Lib.hid ho7
        have HB7 := Lib.hid (HWD.out.trans hb7)
        clear ho7 hb7 r1 r2
        go_wp2_with fail
        go_roundw
        case rel => exact ⟨i + 1, by go_num, hlt, HO7.out, HB7.out⟩
        case measure => simp [intOf]; omega)
    · have hin : i = n := by omega
      subst hin
      have e : l.take i = l := by rw [← HN.out]; exact List.take_length
      rw [e] at HO
      clear e
      go_wp2_with fail
      exact bodyPost_ret (v := .slice PV i cV) (by simp [results, Try.results21, go_sem]) rfl ⟨⟨_, _, rfl, HO.out⟩, HW.out⟩
end Go.Proofs.Ytkdnhhhgggmapaa.Sec
