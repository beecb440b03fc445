/- BodPutP. -/
import Derived.Test.YtffegkjlgeblbaaGreatDoorPkBodSaneP
import Derived.Test.YtffegkjlgeblbaaGreatDoorPkBodPut
import Derived.Lib.LazyBuf
/- Laying a body, by the program: walked. -/
namespace Go.Proofs.YtffegkjlgeblbaaGreatDoor.Bod
open Go.RowKit Ints Typ Ins
set_option maxRecDepth 100000
set_option maxHeartbeats 2000000
set_option linter.unusedVariables false
theorem byt_cells {w : World} {ad : Addr} {n c : Nat} {l : List Int} (h : Sl w (.slice (some ad) n c) l) : ∀ j u, (vb l)[j]? = some u → w.cell? (ad.add j) = some u := by
  intro j u hu
  have hl : l ≠ [] := fun e => by rw [e] at hu; simp [vb] at hu
  obtain ⟨A, c', h1, _, _, h4⟩ := h
  obtain ⟨g, off, e, hB⟩ := h4 hl
  injection h1 with e1
  rw [e] at e1
  obtain rfl := Option.some.inj e1
  exact Byt.cells hB j u hu
theorem run_byB (w : World) (ty : TypeId) (B : Nat) (v : Value) (done l : List Int) (hown : OwnB w B v done) (A : Option Addr) (c : Nat) (hl : Sl w (.slice A l.length c) l) (hlen : done.length + l.length ≤ 10000000) (hB : B ≤ w.heap.size) :
    ∃ v' w', (Builtin.append_ #[22, 22] ty #[v, .slice A l.length c]).run Tryz.prog w = .ok v' w' ∧ OwnB w' B v' (done ++ l) ∧ Below B w w' := by
  obtain ⟨i0, hi, hz0, hz1, hz2⟩ := info_parts byte_info
  rcases A with _ | ad
  · have hl0 : l = [] := by
      rcases l with _ | ⟨x, l⟩
      · rfl
      · obtain ⟨A, c', h1, _, _, h4⟩ := hl
        obtain ⟨g, off, e, _⟩ := h4 (by simp)
        injection h1 with e1
        rw [e] at e1
        cases e1
    subst hl0
    refine ⟨v, w, ?_, by simpa using hown, Below.refl _ _⟩
    have hu := Tryz.underlying22
    obtain ⟨h1, h2⟩ := hown
    rcases h2 with ⟨e, hn⟩ | ⟨g', cp', cur, e, _, _, hn, _⟩
    · subst e
      simp [Builtin.append_, run_underlying hu, sizeOf, typeInfo, hi, Builtin.lenOf, Builtin.firstCells]
    · subst e
      simp [Builtin.append_, run_underlying hu, sizeOf, typeInfo, hi, Builtin.lenOf, Builtin.firstCells, hn, storeCells]
  · obtain ⟨v', w', hr, h1, h2, h3⟩ := run_append_own (P := Tryz.prog) w B 22 ty 5 i0 (.int .u8 0) 1 1 Tryz.underlying22 hi hz0 hz1 hz2 rfl (by decide) v _ _ hown ad l.length c (vb l) (by simp [vb]) (byt_cells hl) (vb_oneCell l) (by simp only [maxLen]; omega) (by omega) hB
    refine ⟨v', w', hr, ?_, (Below.refl _ _).grown h2 (by omega) (fun k hk => (World.ownsRow.lt hown k hk).1)⟩
    have h1' : w'.ownsRow B 5 1 v' (done ++ l).length (vb (done ++ l)) := by rw [show vb (done ++ l) = vb done ++ vb l from by simp [vb], List.length_append]; exact h1
    exact h1'
theorem wp_byB {ops : Array Oper} {rest : List Oper} {o : Oper} {a : Act} {Q : Exit → Act → World → Prop} (w : World) (hgd : o.guard = none) (s x : Operand)
    (ho : o.op = .call { callee := .builtin .append, args := #[s, x], argTypes := #[22, 22] }) (B : Nat) (v : Value) (done l : List Int) (hs : a.eval s = v) (hown : OwnB w B v done)
    (A : Option Addr) (c : Nat) (hx : a.eval x = .slice A l.length c) (hl : Sl w (.slice A l.length c) l) (hlen : done.length + l.length ≤ 10000000) (hB : B ≤ w.heap.size)
    (h : ∀ v' w', OwnB w' B v' (done ++ l) → Below B w w' → wpList Tryz.prog ops Q rest (a.put o.dst v') w') : wpList Tryz.prog ops Q (o :: rest) a w := by
  refine wpList_plain hgd fun K hK => ?_
  obtain ⟨v', w', hr, h1, h2⟩ := run_byB w o.type B v done l hown A c hl hlen hB
  unfold Oper.wp
  simp only [execOp, ho, resolve, invoke, builtin, Sem.run_bind, Sem.run_pure, Result.andThen_ok, List.map_toArray, List.map_cons, List.map_nil, hs, hx, hr]
  exact hK _ _ (h v' w' h1 h2)
theorem one_sl (w : World) (x : Int) : Sl (w.alloc (.cells #[.int .u8 x] 5)) (.slice (some ⟨w.heap.size, 0, none⟩) ([x] : List Int).length 1) [x] :=
  ⟨_, 1, rfl, Nat.le_refl _, by decide, fun _ => ⟨w.heap.size, 0, rfl, ⟨by show w.heap.size < _; rw [size_new]; omega, rfl, fun j hj => by
    obtain rfl : j = 0 := by simpa using hj
    simp⟩⟩⟩
theorem clone_any {A : Option Addr} {n c : Nat} {b : List Int} {w : World} (hn : b.length = n) (hb : Sl w (.slice A n c) b) (hl : b.length ≤ 10000) : Calls Tryz.prog 231 #[.slice A n c] w fun e w' => ∃ v, e = .returned v ∧ OwnB w' w.heap.size v b ∧ Below w.heap.size w w' := by
  rcases A with _ | ad
  · have hb0 : b = [] := by
      rcases b with _ | ⟨x, b⟩
      · rfl
      · obtain ⟨A, c', h1, _, _, h4⟩ := hb
        obtain ⟨g, off, e, _⟩ := h4 (by simp)
        injection h1 with e1
        rw [e] at e1
        cases e1
    subst hb0
    clear hb hl hn
    have heq : ∀ W, (binOp .eql 22 (.slice none n c) (.slice none 0 0)).run Tryz.prog W = .ok (.bool true) W := fun W => run_eql_slice_nil W _ _ none n c Tryz.underlying22
    go_enter Tryz.func231, Tryz.ntmps231
    go_wp2_with fail
    exact bodyPost_ret (v := .slice none 0 0) (by simp [results, Tryz.results231, go_sem]) rfl ⟨_, rfl, ownB_nil _ _, Below.refl _ _⟩
  · have HB := Lib.hid hb
    have HL := Lib.hid hl
    have HN := Lib.hid hn
    clear hb hl hn
    have HA := Lib.hid ((Below.refl w.heap.size w).alloc (Nat.le_refl _) (.cells #[] 5))
    have HE : Hid (OwnB (w.alloc (.cells #[] 5)) w.heap.size (.slice (some ⟨w.heap.size, 0, none⟩) 0 0) []) := ⟨rfl, .inr ⟨_, _, _, rfl, Nat.le_refl _, heap_new _ _, Nat.le_refl _, by simp [maxLen], by simp, by simp [vb]⟩⟩
    have heq : ∀ W, (binOp .eql 22 (.slice (some ad) n c) (.slice none 0 0)).run Tryz.prog W = .ok (.bool false) W := fun W => run_eql_slice_nil W _ _ (some ad) n c Tryz.underlying22
    go_enter Tryz.func231, Tryz.ntmps231
    go_wp2_with (at_builtin; refine wp_byB _ rfl (.tmp 5) (.tmp 6) rfl w.heap.size _ [] b rfl HE.out (some ad) c (by rw [HN.out]; rfl) (by rw [HN.out]; exact HB.out.keep HA.out) (by have := HL.out; simp; omega) HA.out.size ?_; intro v1 w1 ho1 hb1; have HO1 := Lib.hid ho1; have HB1 := Lib.hid (HA.out.trans hb1); clear ho1 hb1; obtain ⟨A1, c1, hv1, _⟩ := OwnB.row HO1.out; obtain ⟨k1, hk1⟩ : ∃ k, (([] : List Int) ++ b).length = k := ⟨_, rfl⟩; rw [hk1] at hv1; subst hv1; clear hk1)
    exact bodyPost_ret (v := .slice A1 k1 c1) (by simp [results, Tryz.results231, go_sem]) rfl ⟨_, rfl, HO1.out, HB1.out⟩
theorem bputP_no {l : List (Ins × Value)} {A A0 : Option Addr} {n c m c0 : Nat} {w : World} (hT : KTab w) (hn : l.length = n) (hr : InRow w (.slice A n c) l) (hS : ¬ SaneB l) :
    Calls Tryz.prog 207 #[.slice A0 m c0, .slice A n c] w (PutTold [] 1 w) := by
  have HC := Lib.hid (bsaneP_any hT hn hr)
  have HNO := Lib.hid hS
  clear hS hr hn hT
  go_enter Tryz.func207, Tryz.ntmps207
  go_wp2_with fail
  refine HC.out.mono ?_
  rintro en w2 ⟨⟨b, rfl, hb⟩, hB⟩
  have HB := Lib.hid hB
  cases b with
  | true => exact absurd (hb.1 rfl) HNO.out
  | false =>
    clear hb hB
    go_wp2_with fail
    exact bodyPost_ret (v := .tuple #[.slice none 0 0, .int .i64 1]) (by simp [results, Tryz.results207, go_sem]) rfl ⟨_, rfl, Sl.nil _, HB.out⟩
theorem bputP_yes {l : List (Ins × Value)} {A A0 : Option Addr} {n c c0 : Nat} {b : List Int} {w : World} (hT : KTab w) (hn : l.length = n) (hr : InRow w (.slice A n c) l) (hS : SaneB l) (hb : Sl w (.slice A0 b.length c0) b) (hbl : b.length ≤ 10000) :
    Calls Tryz.prog 207 #[.slice A0 b.length c0, .slice A n c] w (PutTold (b ++ ibs l ++ [11]) 0 w) := by
  have HC := Lib.hid (bsaneP_any hT hn hr)
  have HSA : Hid (∀ p ∈ l, saneI p.1 = true) := fun p hp => by
    obtain ⟨q, hq⟩ := List.getElem?_of_mem hp
    exact (hS.2.2 q p hq).1
  have HLB : Hid (∀ i, (ibs (l.take i)).length ≤ 2867200) := fun i => by
    have h := ibs_len (l := l.take i) (fun p hp => (hr.2 p (List.mem_of_mem_take hp)).2) (fun p hp => HSA.out p (List.mem_of_mem_take hp))
    have h2 := hS.2.1
    have h3 : (l.take i).length ≤ l.length := by simp; omega
    omega
  have hbig : n ≤ 4096 := by rw [← hn]; exact hS.2.1
  have HYES := Lib.hid hS
  have HR := Lib.hid hr
  have HN := Lib.hid hn
  have HT := Lib.hid hT
  have HB := Lib.hid hb
  have HBL := Lib.hid hbl
  obtain ⟨m, hm⟩ : ∃ m, b.length = m := ⟨_, rfl⟩
  rw [hm]
  have HM := Lib.hid hm
  clear hS hr hT hn hb hbl hm
  go_enter Tryz.func207, Tryz.ntmps207
  go_wp2_with fail
  refine HC.out.mono ?_
  rintro en w2 ⟨⟨q, rfl, hq⟩, hB⟩
  have HW := Lib.hid hB
  obtain rfl := hq.2 HYES.out
  clear hq hB
  go_wp2_with fail
  refine (clone_any HM.out (by rw [← HM.out]; exact HB.out.keep HW.out) HBL.out).mono ?_
  rintro en w3 ⟨v3, rfl, ho3, hb3⟩
  have HO3 := Lib.hid ho3
  have HB3 := Lib.hid hb3
  clear ho3 hb3
  obtain ⟨A3, c3, hv3, _⟩ := OwnB.row HO3.out
  rw [HM.out] at hv3
  subst hv3
  go_wp2_with fail
  go_loopw [6, 18] (fun v i' wr => ∃ i : Nat, i' = .int .i64 (i : Int) ∧ i ≤ n ∧ OwnB wr w2.heap.size v (b ++ ibs (l.take i)) ∧ Below w2.heap.size w2 wr) (fun _ i' _ => n - (intOf i').toNat)
  case atStart => exact ⟨0, by go_num, by omega, by simpa [ibs] using HO3.out, HB3.out⟩
  case round =>
    clear HO3 HB3
    obtain ⟨i, rfl, hi, hO, hW⟩ := hrel
    have HO := Lib.hid hO
    have HW3 := Lib.hid hW
    clear hO hW
    have HWW := Lib.hid (HW.out.trans (HW3.out.mono HW.out.size))
    obtain ⟨Av, dv, hvv, _⟩ := OwnB.row HO.out
    subst hvv
    by_cases hlt : i < n
    · obtain ⟨y, hy⟩ : ∃ y, l[i]? = some y := ⟨_, List.getElem?_eq_getElem (by rw [HN.out]; exact hlt)⟩
      have hm := List.mem_of_getElem? hy
      obtain ⟨g, off, rfl, hCI, _⟩ := (HR.out.keep HWW.out).at_ hy
      have HOk := Lib.hid (HR.out.2 _ hm)
      have HX := Lib.hid (HSA.out _ hm)
      obtain ⟨PL, cL, hpo, _⟩ := id HOk.out.1
      have HTK := Lib.hid (ibs_take hy)
      have HU := Lib.hid HOk.out.2
      have HLi := Lib.hid (HLB.out i)
      have HIL := Lib.hid (ib_facts HU.out HX.out).2.1
      obtain ⟨x, ov⟩ := y
      simp only at hpo HX HTK HU HIL
      obtain ⟨nL, hnL⟩ : ∃ nL, x.L.length = nL := ⟨_, rfl⟩
      rw [hnL] at hpo
      subst hpo
      have hal := (Below.refl wr.heap.size wr).alloc (Nat.le_refl _) (.cells #[.int .i64 x.op, .int .i64 x.A, .int .i64 x.B, .int .u64 x.K, .slice PL nL cL] 67)
      have HW3a := Lib.hid (HW3.out.trans (hal.mono HW3.out.size))
      have HWWa := Lib.hid (HWW.out.trans (hal.mono HWW.out.size))
      have HOa := Lib.hid (HO.out.keep hal)
      have HP := Lib.hid (pput_any (x := x) (b := []) (Sl.nil (wr.alloc (.cells #[.int .i64 x.op, .int .i64 x.A, .int .i64 x.B, .int .u64 x.K, .slice PL nL cL] 67))) (by simp) (HOk.out.1.keep HWWa.out) HU.out (HT.out.keep HWWa.out))
      unfold PutIs at HP
      rw [HX.out] at HP
      have HP : Hid (Calls Tryz.prog 232 #[.slice none 0 0, .agg #[.int .i64 x.op, .int .i64 x.A, .int .i64 x.B, .int .u64 x.K, .slice PL nL cL]] (wr.alloc (.cells #[.int .i64 x.op, .int .i64 x.A, .int .i64 x.B, .int .u64 x.K, .slice PL nL cL] 67)) (PutTold (ib x) 0 (wr.alloc (.cells #[.int .i64 x.op, .int .i64 x.A, .int .i64 x.B, .int .u64 x.K, .slice PL nL cL] 67)))) := HP.out
      clear hy hm hnL hal
      obtain ⟨q1, q2, q3, q4, q5⟩ := hCI
      simp only at q1 q2 q3 q4 q5
      have hin1 : (0 : Int) ≤ (i : Int) := by omega
      have hin2 : (i : Int) < (n : Int) := by omega
      have hw1 : IntKind.i64.wrap ((i : Int) + 1) = (i : Int) + 1 := IntWalk.i64_in _ (by omega)
      generalize ibs (l.take i) = Lb at HO HOa HTK HLi
      generalize ib x = ibx at HTK HIL HP
      obtain ⟨kb, hkb⟩ : ∃ kb, (b ++ Lb).length = kb := ⟨_, rfl⟩
      rw [hkb] at HO HOa ⊢
      have HKB := Lib.hid hkb
      clear hkb
      go_wp2_with fail
      clear HO HW3 HWW
      generalize (wr.alloc (.cells #[.int .i64 x.op, .int .i64 x.A, .int .i64 x.B, .int .u64 x.K, .slice PL nL cL] 67)) = wq at *
      refine HP.out.mono ?_
      rintro en w4 ⟨v4, rfl, hs4, hb4⟩
      obtain ⟨A4, c4, hv4, _⟩ := id hs4
      subst hv4
      have HS4 := Lib.hid hs4
      have HO4 := Lib.hid (HOa.out.keep hb4)
      have HW4 := Lib.hid (HW3a.out.trans (hb4.mono HW3a.out.size))
      clear hs4 hb4 q1 q2 q3 q4 q5
      go_wp2_with (at_builtin; refine wp_byB _ rfl (.tmp 30) (.tmp 31) rfl w2.heap.size _ (b ++ Lb) ibx rfl HO4.out A4 c4 rfl HS4.out (by have := HBL.out; have := HM.out; have := HLi.out; have := HIL.out; rw [List.length_append]; omega) HW4.out.size ?_; intro v5 w5 ho5 hb5; have HO5 := Lib.hid ho5; have HW5 := Lib.hid (HW4.out.trans hb5); clear ho5 hb5)
      go_roundw
      case rel => exact ⟨i + 1, by go_num, hlt, by rw [HTK.out, ← List.append_assoc]; exact HO5.out, HW5.out⟩
      case measure => simp [intOf]; omega
    · have hin : i = n := by omega
      subst hin
      have e : l.take i = l := by rw [← HN.out]; exact List.take_length
      rw [e] at HO ⊢
      clear e
      have HLL := Lib.hid (show (b ++ ibs l).length + 1 ≤ 10000000 by
        have h := HLB.out l.length
        rw [List.take_length] at h
        have := HBL.out
        rw [List.length_append]
        omega)
      obtain ⟨kb, hkb⟩ : ∃ kb, (b ++ ibs l).length = kb := ⟨_, rfl⟩
      rw [hkb] at HO ⊢
      clear hkb hlt
      have HOZ := Lib.hid (World.ownsRow.alloc HO.out (.cells #[.int .u8 11] 5))
      have HWZ := Lib.hid (HW3.out.alloc HW3.out.size (.cells #[.int .u8 11] 5))
      go_wp2_with (at_builtin; refine wp_byB _ rfl (.tmp 34) (.tmp 35) rfl w2.heap.size _ (b ++ ibs l) [11] rfl HOZ.out _ 1 rfl (one_sl wr 11) (by have := HLL.out; simp at this ⊢; omega) HWZ.out.size ?_; intro v9 w9 ho9 hb9; have HO9 := Lib.hid ho9; have HW9 := Lib.hid (HW.out.trans ((HWZ.out.trans hb9).mono HW.out.size)); clear ho9 hb9; obtain ⟨A9, c9, hv9, _⟩ := OwnB.row HO9.out; obtain ⟨k9, hk9⟩ : ∃ k, (b ++ ibs l ++ [11]).length = k := ⟨_, rfl⟩; rw [hk9] at hv9; subst hv9; clear hk9; go_wp2_with fail)
      refine bodyPost_ret (v := .tuple #[.slice A9 k9 c9, .int .i64 0]) (by simp [results, Tryz.results207, go_sem]) rfl ⟨_, rfl, HO9.out.sl, HW9.out⟩
end Go.Proofs.YtffegkjlgeblbaaGreatDoor.Bod
