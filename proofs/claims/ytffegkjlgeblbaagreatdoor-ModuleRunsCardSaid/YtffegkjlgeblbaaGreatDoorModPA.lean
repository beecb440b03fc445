/- ModPA. -/
import Derived.Test.YtffegkjlgeblbaaGreatDoorPkModAwW
/- The law's first call, walked: awake. -/
namespace Go.Proofs.YtffegkjlgeblbaaGreatDoor.Mdl
open Go.RowKit Ints Typ Ins
set_option maxRecDepth 100000
set_option maxHeartbeats 4000000
set_option linter.unusedVariables false
theorem aw_first {v : Value} (w : World) (hs : Utf.Sl w v Sec.hd8) : Calls Tryz.prog 12 #[v] w (DTold (noMod (-1), 0) w) := by
  have := pdecode_of hs Sec.hd8_byte (by rw [Sec.up_none]; intro s h; cases h) (by rw [Sec.up_none]; decide) (by rw [Sec.up_none]; intro s h; cases h)
  rw [aw_dec0] at this
  exact this
theorem aw_again {w : World} {v : Value} (hs : Utf.Sl w v [0, 97, 115, 109, 1, 0, 0, 0, 5, 3, 1, 0, 1]) : Calls Tryz.prog 12 #[v] w (DTold ({noMod (-1) with mems := [(1, 0, false)]}, 0) w) := by
  have := pdecode_of hs (by decide) (by rw [aw_split]; decide) (by rw [aw_split]; decide) (by
    rw [aw_split]
    intro s h _
    obtain rfl := List.mem_singleton.1 h
    exact secok_5 _)
  rw [aw_dec1] at this
  exact this
theorem wpList_run {P : Program} {ops : Array Oper} {Q : Exit → Act → World → Prop} {o : Oper} {rest : List Oper} {a : Act} {w : World} (hgd : o.guard = none) (v : Value) (w' : World)
    (hr : (execOp a.eval o).run P w = .ok (.value v) w') (h : wpList P ops Q rest (a.put o.dst v) w') : wpList P ops Q (o :: rest) a w := by
  refine wpList_plain hgd fun K hK => ?_
  unfold Oper.wp
  rw [hr, Oper.upon_value]
  exact hK _ _ h
theorem row_one {α : Type} {T : RowG.El α} {w : World} {v : Value} {l : List α} (h : RowG.Row T w v l) : v.oneCell' = true := by
  obtain ⟨P, c, rfl⟩ := row_len h
  rfl
theorem ModAt.one {w : World} {m : ModT} {c0 c1 c2 c3 c4 c5 c6 c7 c8 c9 c10 : Value} (h : ModAt w (.agg #[c0, c1, c2, c3, c4, c5, c6, c7, c8, c9, c10]) m) : ∀ v ∈ [c0, c1, c2, c3, c4, c5, c6, c7, c8, c9, c10], v.oneCell' = true := by
  obtain ⟨vt, vi, vf, va, vm, vg, vx, ve, vc, vd, e, r1, r2, r3, r4, r5, r6, r7, r8, r9, r10, r11⟩ := h
  simp only [Value.agg.injEq, Array.mk.injEq, List.cons.injEq, and_true] at e
  obtain ⟨rfl, rfl, rfl, rfl, rfl, rfl, rfl, rfl, rfl, rfl, rfl⟩ := e
  obtain ⟨Pf, csf, rfl, _⟩ := id r3
  intro v hv
  simp only [List.mem_cons, List.not_mem_nil, or_false] at hv
  rcases hv with rfl | rfl | rfl | rfl | rfl | rfl | rfl | rfl | rfl | rfl | rfl
  · exact row_one r1
  · exact row_one r2
  · rfl
  · exact row_one r4
  · exact row_one r5
  · exact row_one r6
  · exact row_one r7
  · rfl
  · exact row_one r9
  · exact row_one r10
  · exact row_one r11
theorem aw_row (w : World) : RowG.Row elL (w.alloc (.cells #[.int .i64 1, .int .i64 0, .bool false] 61)) (.slice (some ⟨w.heap.size, 0, none⟩) 1 1) [(1, 0, false)] := by
  refine ⟨⟨_, 1, rfl, Nat.le_refl _, by decide, fun _ => ⟨w.heap.size, 0, rfl, by simp, fun j p hp => ?_⟩⟩, fun p hp => ?_⟩
  · obtain rfl : j = 0 := by
      have := (List.getElem?_eq_some_iff.1 hp).1
      simpa using this
    obtain rfl := Option.some.inj hp
    exact new_at elL w (1, 0, false)
  · obtain rfl := List.mem_singleton.1 hp
    exact ⟨by unfold w64; decide, by unfold w64; decide⟩
/-- A module's block, its zero. -/
def zMod : Array Value := #[.slice none 0 0, .slice none 0 0, .slice none 0 0, .slice none 0 0, .slice none 0 0, .slice none 0 0, .slice none 0 0, .int .i64 0, .slice none 0 0, .slice none 0 0, .slice none 0 0]
/-- A new block, and a module stored there. -/
theorem new_mod {w : World} {m : ModT} {c0 c1 c2 c3 c4 c5 c6 c7 c8 c9 c10 : Value} (h : ModAt w (.agg #[c0, c1, c2, c3, c4, c5, c6, c7, c8, c9, c10]) m) :
    ∃ W, (Instr.storeAt 34 (.pointer (some ⟨w.heap.size, 0, none⟩)) (.agg #[c0, c1, c2, c3, c4, c5, c6, c7, c8, c9, c10])).run Tryz.prog (w.alloc (.cells zMod 34)) = .ok () W ∧ Below w.heap.size w W ∧ W.heap[w.heap.size]? = some (.cells #[c0, c1, c2, c3, c4, c5, c6, c7, c8, c9, c10] 34 (0, 0)) :=
  ⟨_, run_stM (Sec.heap_new w _) rfl h.one, ((Below.refl w.heap.size w).alloc (Nat.le_refl _) _).trans (below_row _ (Nat.le_refl _) _), setRow_heap _ _ _ _ _ _ (Sec.heap_new w _)⟩
theorem awake8_any (w : World) : Calls Tryz.prog 11 #[] w fun e w' => e = .returned (.bool true) ∧ Below w.heap.size w w' := by
  have kc := fun (W : World) (C : Array Value) (n c : Nat) => Lib.run_convert_bytes_const (P := Tryz.prog) W 22 5 C n c Tryz.underlying22 Tryz.underlying5
  have HM : Hid (Sec.Mrk (w.alloc (.cells #[.int .u8 0, .int .u8 97, .int .u8 115, .int .u8 109, .int .u8 1, .int .u8 0, .int .u8 0, .int .u8 0] 5 (8, 9))) w.heap.size (.slice (some ⟨w.heap.size, 0, none⟩) 8 8) Sec.hd8) := Lib.hid ⟨w.heap.size, rfl, Nat.le_refl _, Sec.heap_new w _⟩
  have HB0 := Lib.hid ((Below.refl w.heap.size w).alloc (Nat.le_refl _) (.cells #[.int .u8 0, .int .u8 97, .int .u8 115, .int .u8 109, .int .u8 1, .int .u8 0, .int .u8 0, .int .u8 0] 5 (8, 9)))
  go_enter Tryz.func11, Tryz.ntmps11
  go_wp2_with fail
  refine (aw_first _ (HM.out.sl (by decide))).mono ?_
  rintro en w1 ⟨u1, m1, rfl, hm1, hp1, hb1⟩
  have HB1 := Lib.hid (HB0.out.trans (hb1.mono HB0.out.size))
  have hm2 := hm1
  obtain ⟨vt, vi, vf, va, vm, vg, vx, ve, vc, vd, rfl, hjunk⟩ := hm2
  clear hjunk
  have hst : m1.start = -1 := by have := congrArg PMod.start hp1; exact this
  rw [hst] at hm1 ⊢
  obtain ⟨W2, hst2, hbw2, hcw2⟩ := new_mod hm1
  have HST := Lib.hid hst2
  have HB2 := Lib.hid (HB1.out.trans (hbw2.mono HB1.out.size))
  have HC2 := Lib.hid hcw2
  clear hb1 hp1 hst hm1 hst2 hbw2 hcw2
  rename_i hK
  refine hK _ _ ?_
  refine wpList_run rfl _ _ rfl ?_
  refine wpList_run rfl _ _ rfl ?_
  refine wpList_run rfl _ _ rfl ?_
  refine wpList_run rfl (.pointer (some ⟨w1.heap.size, 0, none⟩)) (w1.alloc (.cells zMod 34)) (by unfold zMod; go_simp) ?_
  refine wpList_st rfl _ _ _ rfl HST.out ?_
  have HROW := Lib.hid (aw_row W2)
  have HB3 := Lib.hid (HB2.out.alloc HB2.out.size (.cells #[.int .i64 1, .int .i64 0, .bool false] 61))
  go_wp2_with fail
  refine (encode_any _ _ _ _ _ _ _ _ _ _ _ (aw_laid HROW.out)).mono ?_
  rintro en w4 ⟨⟨_, g4, c4, rfl, hs4⟩ | ⟨h, _⟩, hb4⟩
  case inr => cases h
  rw [show ([0, 97, 115, 109, 1, 0, 0, 0, 5, 3, 1, 0, 1] : List Int).length = 13 from rfl] at hs4 ⊢
  have HS4 := Lib.hid hs4
  have HB4 := Lib.hid (HB3.out.trans (hb4.mono HB3.out.size))
  have HC4 : Hid (w4.heap[w1.heap.size]? = some (.cells #[vt, vi, vf, va, vm, vg, vx, .int .i64 (-1), ve, vc, vd] 34 (0, 0))) := Lib.hid (by
    have hlt := (Array.getElem?_eq_some_iff.1 HC2.out).1
    rw [hb4.block _ (by simp; omega), Below.heap_alloc _ _ _ (by omega)]
    exact HC2.out)
  clear hs4 hb4
  go_wp2_with fail
  refine (aw_again HS4.out).mono ?_
  rintro en w5 ⟨u5, m5, rfl, hm5, hp5, hb5⟩
  have HB5 := Lib.hid (HB4.out.trans (hb5.mono HB4.out.size))
  have HC5 : Hid (w5.heap[w1.heap.size]? = some (.cells #[vt, vi, vf, va, vm, vg, vx, .int .i64 (-1), ve, vc, vd] 34 (0, 0))) := Lib.hid (by
    have hlt := (Array.getElem?_eq_some_iff.1 HC4.out).1
    rw [hb5.block _ hlt]
    exact HC4.out)
  have hm6 := hm5
  obtain ⟨yt, yi, yf, ya, ym, yg, yx, ye, yc, yd, rfl, r1, r2, r3, r4, r5, hjunk⟩ := hm6
  clear hjunk r1 r2 r3 r4
  have hmem : m5.mems = [(1, 0, false)] := by have := congrArg PMod.mems hp5; exact this
  obtain ⟨st, hst⟩ : ∃ s, m5.start = s := ⟨_, rfl⟩
  rw [hst] at hm5 ⊢
  rw [hmem] at r5
  obtain ⟨Pm, csm, hym⟩ := row_len r5
  rw [show ([((1 : Int), (0 : Int), false)] : List LimT).length = 1 from rfl] at hym
  subst hym
  obtain ⟨g5, off5, rfl, hg5, hA5, hok5⟩ := r5.at_ (j := 0) (p := (1, 0, false)) rfl
  rw [Nat.zero_mul, Nat.add_zero] at hA5
  have q0 := hA5 0 (.int .i64 1) rfl
  rw [Nat.add_zero] at q0
  obtain ⟨W6, hst6, hbw6, hcw6⟩ := new_mod hm5
  have HST6 := Lib.hid hst6
  have HB6 := Lib.hid (HB5.out.trans (hbw6.mono HB5.out.size))
  have HC6 := Lib.hid hcw6
  have p0 : W6.cell? ⟨g5, off5, none⟩ = some (.int .i64 1) := by rw [hbw6.cell (p := ⟨g5, off5, none⟩) hg5]; exact q0
  have HM6 : Hid (W6.heap[w1.heap.size]? = some (.cells #[vt, vi, vf, va, vm, vg, vx, .int .i64 (-1), ve, vc, vd] 34 (0, 0))) := Lib.hid (by
    have hlt := (Array.getElem?_eq_some_iff.1 HC5.out).1
    rw [hbw6.block _ hlt]
    exact HC5.out)
  clear hb5 hp5 hst hm5 hst6 hbw6 hcw6 hmem q0 hA5 hg5 r5 hok5
  rename_i hK2
  refine hK2 _ _ ?_
  refine wpList_run rfl _ _ rfl ?_
  refine wpList_run rfl _ _ rfl ?_
  refine wpList_run rfl _ _ rfl ?_
  refine wpList_run rfl (.pointer (some ⟨w5.heap.size, 0, none⟩)) (w5.alloc (.cells zMod 34)) (by unfold zMod; go_simp) ?_
  refine wpList_st rfl _ _ _ rfl HST6.out ?_
  have z7 : W6.cell? ⟨w1.heap.size, 7, none⟩ = some (.int .i64 (-1)) := (Sec.cells_at HM6.out 7).1
  have z4 : W6.cell? ⟨w5.heap.size, 4, none⟩ = some (.slice (some ⟨g5, off5, none⟩) 1 csm) := (Sec.cells_at HC6.out 4).1
  go_wp2_with fail
  exact bodyPost_ret (v := .bool true) (by simp [results, Tryz.results11, go_sem]) rfl ⟨rfl, HB6.out⟩
end Go.Proofs.YtffegkjlgeblbaaGreatDoor.Mdl
