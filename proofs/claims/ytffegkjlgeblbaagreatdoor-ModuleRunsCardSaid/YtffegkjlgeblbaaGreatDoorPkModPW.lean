/- ModPDec, ModPW. -/
import Derived.Test.YtffegkjlgeblbaaGreatDoorModPRead
import Derived.Test.YtffegkjlgeblbaaGreatDoorPkModPList
import Derived.Test.YtffegkjlgeblbaaGreatDoorPkModPTl
import Derived.Test.YtffegkjlgeblbaaGreatDoorPkBodPutP
section
/- The program's Decode: walked, given its sections' readers. -/
namespace Go.Proofs.YtffegkjlgeblbaaGreatDoor.Mdl
open Go.RowKit Ints Typ Ins
set_option maxRecDepth 100000
set_option maxHeartbeats 2000000
set_option linter.unusedVariables false
/-- How Decode ends. -/
def DTold (q : PMod × Int) (w : World) (en : Ending) (w' : World) : Prop := ∃ u m, en = .returned (.tuple #[u, .int .i64 q.2]) ∧ ModAt w' u m ∧ plainM m = q.1 ∧ Below w.heap.size w w'
theorem zMod_at (w : World) : ModAt w (.agg #[.slice none 0 0, .slice none 0 0, .slice none 0 0, .slice none 0 0, .slice none 0 0, .slice none 0 0, .slice none 0 0, .int .i64 0, .slice none 0 0, .slice none 0 0, .slice none 0 0]) ⟨[], [], [], [], [], [], [], 0, [], [], []⟩ :=
  ⟨_, _, _, _, _, _, _, _, _, _, rfl, RowG.Row.nil _ _, RowG.Row.nil _ _, ⟨none, 0, rfl, Nat.le_refl _, by omega, fun h => absurd rfl h⟩, RowG.Row.nil _ _, RowG.Row.nil _ _, RowG.Row.nil _ _, RowG.Row.nil _ _, by unfold w64; decide, RowG.Row.nil _ _, RowG.Row.nil _ _, RowG.Row.nil _ _⟩
theorem pdecM_no (b : List Int) (h : (pdecM b).2 ≠ 0) : (pdecM b).1 = noMod 0 := by
  unfold pdecM at h ⊢
  split
  · rfl
  · rename_i h0
    rw [if_neg h0] at h
    unfold decEnd at h ⊢
    split
    · have key : ∀ (l : List Sec.Sct) (m : PMod), (pdecsM l m).2 ≠ 0 → (pdecsM l m).1 = noMod 0 := by
        intro l
        induction l with
        | nil => intro m h; exact absurd rfl h
        | cons s r ih =>
          intro m h
          by_cases h1 : s.1 = 0
          · rw [pdecs_skip h1] at h ⊢; exact ih m h
          · by_cases h2 : (pone s m).2 = 0
            · rw [pdecs_ok h1 h2] at h ⊢; exact ih _ h
            · rw [pdecs_err h1 h2]
      rename_i h1
      exact key _ _ h1
    · rename_i h1
      rw [if_neg h1] at h
      split
      · rfl
      · rename_i h2
        rw [if_neg h2] at h
        exact absurd (Decidable.not_not.1 h1) h
theorem pdecode_of {v : Value} {b : List Int} {w : World} (hs : Utf.Sl w v b) (hb : ∀ x ∈ b, 0 ≤ x ∧ x < 256) (hD : ∀ s ∈ (Sec.split7 b).1, s.2.length ≤ 1000000) (hn : (Sec.split7 b).1.length ≤ 1000000)
    (hsec : ∀ s ∈ (Sec.split7 b).1, s.1 ≠ 0 → SecOK s.1 s.2) :
    Calls Tryz.prog 12 #[v] w (DTold (pdecM b) w) := by
  have HRD := Lib.hid fun W (h : Below w.heap.size w W) => pread_of (hs.keep h) hb hD hn hsec
  have HNO := Lib.hid (pdecM_no b)
  obtain ⟨A, c, rfl, _⟩ := id hs
  clear hs hb hD hn hsec
  generalize pdecM b = q at *
  have HB1 := Lib.hid (((Below.refl w.heap.size w).alloc (Nat.le_refl _) (.cells #[.slice none 0 0, .slice none 0 0, .slice none 0 0, .slice none 0 0, .slice none 0 0, .slice none 0 0, .slice none 0 0, .int .i64 0, .slice none 0 0, .slice none 0 0, .slice none 0 0] 34)).alloc (by simp) (.cells #[.int .i64 0] 35))
  have hmf : ∀ (fn : Fn) (first cap : Array Value) (w : World), (Instr.makeFunc fn first cap).run Tryz.prog w = .ok (.func fn first cap) w := fun _ _ _ _ => rfl
  go_enter_defers Tryz.func12, Tryz.ntmps12
  go_wp2_with fail
  refine (HRD.out _ HB1.out).mono ?_
  rintro en w1 ⟨h | h, hb1⟩
  · obtain ⟨he, ⟨u, m, rfl, hm, hp⟩⟩ := h
    obtain ⟨vt, vi, vf, va, vm, vg, vx, ve, vc, vd, e, r1, r2, r3, r4, r5, r6, r7, r8, r9, r10, r11⟩ := hm.now
    subst e
    obtain ⟨Pt, cst, rfl⟩ := row_len r1
    obtain ⟨Pi, csi, rfl⟩ := row_len r2
    obtain ⟨Pf, csf, rfl, hjunk⟩ := id r3
    clear hjunk
    obtain ⟨Pa, csa, rfl⟩ := row_len r4
    obtain ⟨Pm, csm, rfl⟩ := row_len r5
    obtain ⟨Pg, csg, rfl⟩ := row_len r6
    obtain ⟨Px, csx, rfl⟩ := row_len r7
    obtain ⟨Pe, cse, rfl⟩ := row_len r9
    obtain ⟨Pc, csc, rfl⟩ := row_len r10
    obtain ⟨Pd, csd, rfl⟩ := row_len r11
    obtain ⟨nt, hnt⟩ : ∃ k, m.types.length = k := ⟨_, rfl⟩
    obtain ⟨ni, hni⟩ : ∃ k, m.imps.length = k := ⟨_, rfl⟩
    obtain ⟨nf, hnf⟩ : ∃ k, m.funcs.length = k := ⟨_, rfl⟩
    obtain ⟨na, hna⟩ : ∃ k, m.tabs.length = k := ⟨_, rfl⟩
    obtain ⟨nm, hnm⟩ : ∃ k, m.mems.length = k := ⟨_, rfl⟩
    obtain ⟨ng, hng⟩ : ∃ k, m.globs.length = k := ⟨_, rfl⟩
    obtain ⟨nx, hnx⟩ : ∃ k, m.exps.length = k := ⟨_, rfl⟩
    obtain ⟨ne, hne⟩ : ∃ k, m.elems.length = k := ⟨_, rfl⟩
    obtain ⟨nc, hnc⟩ : ∃ k, m.codes.length = k := ⟨_, rfl⟩
    obtain ⟨nd, hnd⟩ : ∃ k, m.datas.length = k := ⟨_, rfl⟩
    rw [hnt, hni, hnf, hna, hnm, hng, hnx, hne, hnc, hnd] at hm ⊢
    obtain ⟨st, hst⟩ : ∃ s, m.start = s := ⟨_, rfl⟩
    rw [hst] at hm ⊢
    have HM := Lib.hid hm
    have HP := Lib.hid hp
    have HE := Lib.hid he
    have HRW : Hid (w1.heap[w.heap.size]? = some (.cells #[.slice none 0 0, .slice none 0 0, .slice none 0 0, .slice none 0 0, .slice none 0 0, .slice none 0 0, .slice none 0 0, .int .i64 0, .slice none 0 0, .slice none 0 0, .slice none 0 0] 34 (0, 0))) := Lib.hid (by rw [hb1.block w.heap.size (by simp <;> omega)]; rw [Below.heap_alloc _ _ _ (by simp)]; exact Sec.heap_new w _)
    have HER : Hid (w1.heap[w.heap.size + 1]? = some (.cells #[.int .i64 0] 35 (0, 0))) := Lib.hid (by rw [hb1.block (w.heap.size + 1) (by simp)]; have := Sec.heap_new (w.alloc (.cells #[.slice none 0 0, .slice none 0 0, .slice none 0 0, .slice none 0 0, .slice none 0 0, .slice none 0 0, .slice none 0 0, .int .i64 0, .slice none 0 0, .slice none 0 0, .slice none 0 0] 34)) (.cells #[.int .i64 0] 35); rw [Sec.size_new1] at this; exact this)
    have HST := Lib.hid (run_stM (c0 := .slice Pt nt cst) (c1 := .slice Pi ni csi) (c2 := .slice Pf nf csf) (c3 := .slice Pa na csa) (c4 := .slice Pm nm csm) (c5 := .slice Pg ng csg) (c6 := .slice Px nx csx) (c7 := .int .i64 st) (c8 := .slice Pe ne cse) (c9 := .slice Pc nc csc) (c10 := .slice Pd nd csd) HRW.out rfl (by intro v hv; simp only [List.mem_cons, List.not_mem_nil, or_false] at hv; rcases hv with rfl | rfl | rfl | rfl | rfl | rfl | rfl | rfl | rfl | rfl | rfl <;> rfl))
    obtain ⟨W', hW'⟩ : ∃ W', w1.setRow w.heap.size #[.slice Pt nt cst, .slice Pi ni csi, .slice Pf nf csf, .slice Pa na csa, .slice Pm nm csm, .slice Pg ng csg, .slice Px nx csx, .int .i64 st, .slice Pe ne cse, .slice Pc nc csc, .slice Pd nd csd] = W' := ⟨_, rfl⟩
    have HWH : Hid (W'.heap[w.heap.size]? = some (.cells #[.slice Pt nt cst, .slice Pi ni csi, .slice Pf nf csf, .slice Pa na csa, .slice Pm nm csm, .slice Pg ng csg, .slice Px nx csx, .int .i64 st, .slice Pe ne cse, .slice Pc nc csc, .slice Pd nd csd] 34 (0, 0))) := Lib.hid (by rw [← hW']; exact setRow_heap w1 w.heap.size _ _ _ _ HRW.out)
    have HWE : Hid (W'.heap[w.heap.size + 1]? = some (.cells #[.int .i64 0] 35 (0, 0))) := Lib.hid (by rw [← hW', (agp_row (B := w.heap.size + 1) w1 (Nat.lt_succ_self _) _).block _ (Nat.le_refl _) (Array.getElem?_eq_some_iff.1 HER.out).1]; exact HER.out)
    have HWM : Hid (HiP (w.heap.size + 2) W' (fun W => ModAt W (.agg #[.slice Pt nt cst, .slice Pi ni csi, .slice Pf nf csf, .slice Pa na csa, .slice Pm nm csm, .slice Pg ng csg, .slice Px nx csx, .int .i64 st, .slice Pe ne cse, .slice Pc nc csc, .slice Pd nd csd]) m)) := Lib.hid ((by simpa using HM.out : HiP (w.heap.size + 1 + 1) w1 (fun W => ModAt W (.agg #[.slice Pt nt cst, .slice Pi ni csi, .slice Pf nf csf, .slice Pa na csa, .slice Pm nm csm, .slice Pg ng csg, .slice Px nx csx, .int .i64 st, .slice Pe ne cse, .slice Pc nc csc, .slice Pd nd csd]) m)).step (by rw [← hW']; exact agp_row w1 (by omega) _))
    have HWM2 : Hid (∀ Wf, Wf = (W'.setCell ⟨w.heap.size + 1, 0, none⟩ (.int .i64 0)).setCell ⟨w.heap.size + 1, 0, none⟩ (.int .i64 0) → ModAt Wf (.agg #[.slice Pt nt cst, .slice Pi ni csi, .slice Pf nf csf, .slice Pa na csa, .slice Pm nm csm, .slice Pg ng csg, .slice Px nx csx, .int .i64 st, .slice Pe ne cse, .slice Pc nc csc, .slice Pd nd csd]) m) := Lib.hid fun Wf h => by
      subst h
      exact HWM.out _ (agp_set (agp_set (AgP.refl _ _) (by omega) _ _) (by omega) _ _)
    have HWB : Hid (Below w.heap.size w W') := Lib.hid ((HB1.out.trans (hb1.mono HB1.out.size)).trans (by rw [← hW']; exact below_row w1 (Nat.le_refl _) _))
    rw [hW'] at HST
    have e0 := (Sec.cells_at HWE.out 0).1
    have e1 := (Sec.cells_at HWE.out 0).2
    clear r1 r2 r3 r4 r5 r6 r7 r8 r9 r10 r11 hnt hni hnf hna hnm hng hnx hne hnc hnd hst hm hp he hb1 hW'
    rename_i hK
    refine hK _ _ ?_
    refine wpList_st rfl _ _ _ rfl HST.out ?_
    go_wp2_with fail
    refine leaves_cons (f := 31) (args := #[.pointer (some ⟨w.heap.size + 1, 0, none⟩)]) (by simp) (by simp [go_sem]) ?_
    refine (dec1_ret (w.heap.size + 1) 0 _ (World.cell?_setCell_same _ _ _ e0) (by rw [World.frozen?_setCell]; exact e1)).mono ?_
    rintro en u' w2 ⟨rfl, rfl, rfl⟩
    obtain ⟨Wf, hWf⟩ : ∃ W, (W'.setCell ⟨w.heap.size + 1, 0, none⟩ (.int .i64 0)).setCell ⟨w.heap.size + 1, 0, none⟩ (.int .i64 0) = W := ⟨_, rfl⟩
    have HF : Wf.heap[w.heap.size]? = some (.cells #[.slice Pt nt cst, .slice Pi ni csi, .slice Pf nf csf, .slice Pa na csa, .slice Pm nm csm, .slice Pg ng csg, .slice Px nx csx, .int .i64 st, .slice Pe ne cse, .slice Pc nc csc, .slice Pd nd csd] 34 (0, 0)) := by rw [← hWf, Below.heap_setCell _ _ _ _ (by simp), Below.heap_setCell _ _ _ _ (by simp)]; exact HWH.out
    have z0 := (Sec.cells_at HF 0).1
    have z1 := (Sec.cells_at HF 1).1
    have z2 := (Sec.cells_at HF 2).1
    have z3 := (Sec.cells_at HF 3).1
    have z4 := (Sec.cells_at HF 4).1
    have z5 := (Sec.cells_at HF 5).1
    have z6 := (Sec.cells_at HF 6).1
    have z7 := (Sec.cells_at HF 7).1
    have z8 := (Sec.cells_at HF 8).1
    have z9 := (Sec.cells_at HF 9).1
    have z10 := (Sec.cells_at HF 10).1
    have e9 : Wf.cell? ⟨w.heap.size + 1, 0, none⟩ = some (.int .i64 0) := by rw [← hWf]; exact World.cell?_setCell_same _ _ _ (World.cell?_setCell_same _ _ _ e0)
    have HBF : Hid (Below w.heap.size w Wf) := Lib.hid (by rw [← hWf]; exact below_set (below_set HWB.out (Nat.le_succ _) _) (Nat.le_succ _) _)
    rw [hWf]
    simp [Leaves, settle, results, Tryz.results12, go_sem, z0, z1, z2, z3, z4, z5, z6, z7, z8, z9, z10, e9]
    exact ⟨_, m, by rw [HE.out], HWM2.out Wf hWf.symm, HP.out, HBF.out⟩
  · obtain ⟨he, rfl⟩ := h
    refine leaves_cons (f := 31) (args := #[.pointer (some ⟨w.heap.size + 1, 0, none⟩)]) (by simp) (by simp [go_sem]) ?_
    have HRW : Hid (w1.heap[w.heap.size]? = some (.cells #[.slice none 0 0, .slice none 0 0, .slice none 0 0, .slice none 0 0, .slice none 0 0, .slice none 0 0, .slice none 0 0, .int .i64 0, .slice none 0 0, .slice none 0 0, .slice none 0 0] 34 (0, 0))) := Lib.hid (by rw [hb1.block w.heap.size (by simp <;> omega)]; rw [Below.heap_alloc _ _ _ (by simp)]; exact Sec.heap_new w _)
    have HER : Hid (w1.heap[w.heap.size + 1]? = some (.cells #[.int .i64 0] 35 (0, 0))) := Lib.hid (by rw [hb1.block (w.heap.size + 1) (by simp)]; have := Sec.heap_new (w.alloc (.cells #[.slice none 0 0, .slice none 0 0, .slice none 0 0, .slice none 0 0, .slice none 0 0, .slice none 0 0, .slice none 0 0, .int .i64 0, .slice none 0 0, .slice none 0 0, .slice none 0 0] 34)) (.cells #[.int .i64 0] 35); rw [Sec.size_new1] at this; exact this)
    refine (dec1_flt (w.heap.size + 1) 0 q.2 [] w1 (Sec.cells_at HER.out 0).1 (Sec.cells_at HER.out 0).2).mono ?_
    rintro en u' w2 ⟨rfl, rfl, w3, hb3, rfl⟩
    have HRW3 : Hid (w3.heap[w.heap.size]? = some (.cells #[.slice none 0 0, .slice none 0 0, .slice none 0 0, .slice none 0 0, .slice none 0 0, .slice none 0 0, .slice none 0 0, .int .i64 0, .slice none 0 0, .slice none 0 0, .slice none 0 0] 34 (0, 0))) := Lib.hid (by rw [hb3.block _ (Array.getElem?_eq_some_iff.1 HRW.out).1]; exact HRW.out)
    obtain ⟨Wf, hWf⟩ : ∃ W, w3.setCell ⟨w.heap.size + 1, 0, none⟩ (.int .i64 q.2) = W := ⟨_, rfl⟩
    have HF : Wf.heap[w.heap.size]? = some (.cells #[.slice none 0 0, .slice none 0 0, .slice none 0 0, .slice none 0 0, .slice none 0 0, .slice none 0 0, .slice none 0 0, .int .i64 0, .slice none 0 0, .slice none 0 0, .slice none 0 0] 34 (0, 0)) := by rw [← hWf, Below.heap_setCell _ _ _ _ (by simp)]; exact HRW3.out
    have z0 := (Sec.cells_at HF 0).1
    have z1 := (Sec.cells_at HF 1).1
    have z2 := (Sec.cells_at HF 2).1
    have z3 := (Sec.cells_at HF 3).1
    have z4 := (Sec.cells_at HF 4).1
    have z5 := (Sec.cells_at HF 5).1
    have z6 := (Sec.cells_at HF 6).1
    have z7 := (Sec.cells_at HF 7).1
    have z8 := (Sec.cells_at HF 8).1
    have z9 := (Sec.cells_at HF 9).1
    have z10 := (Sec.cells_at HF 10).1
    have e9 : Wf.cell? ⟨w.heap.size + 1, 0, none⟩ = some (.int .i64 q.2) := by rw [← hWf]; exact World.cell?_setCell_same _ _ _ ((hb3.cell (p := ⟨w.heap.size + 1, 0, none⟩) (Array.getElem?_eq_some_iff.1 HER.out).1).trans (Sec.cells_at HER.out 0).1)
    have HBF : Hid (Below w.heap.size w Wf) := Lib.hid (by rw [← hWf]; exact below_set ((HB1.out.trans (hb1.mono HB1.out.size)).trans (hb3.mono (HB1.out.trans (hb1.mono HB1.out.size)).size)) (Nat.le_succ _) _)
    rw [hWf]
    simp [Leaves, settle, results, Tryz.results12, go_sem, z0, z1, z2, z3, z4, z5, z6, z7, z8, z9, z10, e9]
    exact ⟨_, _, rfl, zMod_at Wf, by rw [HNO.out he]; rfl, HBF.out⟩
end Go.Proofs.YtffegkjlgeblbaaGreatDoor.Mdl
end

section
/- The program's writer of modules: what it keeps, need, put, number. -/
namespace Go.Proofs.YtffegkjlgeblbaaGreatDoor.Mdl
open Go.RowKit Ints Typ Ins
set_option maxRecDepth 100000
set_option maxHeartbeats 4000000
set_option linter.unusedVariables false
/-- 'append(s, l...)' on bytes of the call's own: all blocks but the row's stay. -/
theorem run_byW (w : World) (ty : TypeId) (B : Nat) (v : Value) (done l : List Int) (hown : OwnB w B v done) (A : Option Addr) (c : Nat) (hl : Sl w (.slice A l.length c) l) (hlen : done.length + l.length ≤ 10000000) (hB : B ≤ w.heap.size) :
    ∃ v' w', (Builtin.append_ #[22, 22] ty #[v, .slice A l.length c]).run Tryz.prog w = .ok v' w' ∧ OwnB w' B v' (done ++ l) ∧ Below B w w' ∧ ∀ k, k < w.heap.size → some k ≠ v.ownBlock → w'.heap[k]? = w.heap[k]? := by
  obtain ⟨i0, hi, hz0, hz1, hz2⟩ := info_parts byte_info
  rcases A with _ | ad
  · have hl0 : l = [] := by
      rcases l with _ | ⟨x, l⟩
      · rfl
      · obtain ⟨A, c', h1, _, _, h4⟩ := hl
        obtain ⟨g, off, e, _⟩ := h4 (by simp)
        injection h1 with e1
        rw [e] at e1
        cases e1
    subst hl0
    refine ⟨v, w, ?_, by simpa using hown, Below.refl _ _, fun _ _ _ => rfl⟩
    have hu := Tryz.underlying22
    obtain ⟨h1, h2⟩ := hown
    rcases h2 with ⟨e, hn⟩ | ⟨g', cp', cur, e, _, _, hn, _⟩
    · subst e
      simp [Builtin.append_, run_underlying hu, sizeOf, typeInfo, hi, Builtin.lenOf, Builtin.firstCells]
    · subst e
      simp [Builtin.append_, run_underlying hu, sizeOf, typeInfo, hi, Builtin.lenOf, Builtin.firstCells, hn, storeCells]
  · obtain ⟨v', w', hr, h1, h2, h3⟩ := run_append_own (P := Tryz.prog) w B 22 ty 5 i0 (.int .u8 0) 1 1 Tryz.underlying22 hi hz0 hz1 hz2 rfl (by decide) v _ _ hown ad l.length c (vb l) (by simp [vb]) (Bod.byt_cells hl) (vb_oneCell l) (by simp only [maxLen]; omega) (by omega) hB
    refine ⟨v', w', hr, ?_, (Below.refl _ _).grown h2 (by omega) (fun k hk => (World.ownsRow.lt hown k hk).1), fun k hk hne => h2.block k hk hne⟩
    have h1' : w'.ownsRow B 5 1 v' (done ++ l).length (vb (done ++ l)) := by rw [show vb (done ++ l) = vb done ++ vb l from by simp [vb], List.length_append]; exact h1
    exact h1'
theorem wp_byW {ops : Array Oper} {rest : List Oper} {o : Oper} {a : Act} {Q : Exit → Act → World → Prop} (w : World) (hgd : o.guard = none) (s x : Operand)
    (ho : o.op = .call { callee := .builtin .append, args := #[s, x], argTypes := #[22, 22] }) (B : Nat) (v : Value) (done l : List Int) (hs : a.eval s = v) (hown : OwnB w B v done)
    (A : Option Addr) (c : Nat) (hx : a.eval x = .slice A l.length c) (hl : Sl w (.slice A l.length c) l) (hlen : done.length + l.length ≤ 10000000) (hB : B ≤ w.heap.size)
    (h : ∀ v' w', OwnB w' B v' (done ++ l) → Below B w w' → (∀ k, k < w.heap.size → some k ≠ v.ownBlock → w'.heap[k]? = w.heap[k]?) → wpList Tryz.prog ops Q rest (a.put o.dst v') w') : wpList Tryz.prog ops Q (o :: rest) a w := by
  refine wpList_plain hgd fun K hK => ?_
  obtain ⟨v', w', hr, h1, h2, h3⟩ := run_byW w o.type B v done l hown A c hl hlen hB
  unfold Oper.wp
  simp only [execOp, ho, resolve, invoke, builtin, Sem.run_bind, Sem.run_pure, Result.andThen_ok, List.map_toArray, List.map_cons, List.map_nil, hs, hx, hr]
  exact hK _ _ (h v' w' h1 h2 h3)
/-- A writer: its bytes, and whether anything may not be. -/
structure WS (w : World) (g : Nat) (b : List Int) (bad : Bool) : Prop where
  is : ∃ P c, w.heap[g]? = some (.cells #[.slice P b.length c, .bool bad] 148 (0, 0)) ∧ OwnB w (g + 1) (.slice P b.length c) b
  le : b.length ≤ 65536
/-- But for the writer's block, and rows of bytes behind it, the world is as it was. -/
structure WFr (g : Nat) (w w' : World) : Prop where
  os : w'.os = w.os
  tape : w'.tape = w.tape
  output : w'.output = w.output
  size : w.heap.size ≤ w'.heap.size
  low : ∀ k, k < g → w'.heap[k]? = w.heap[k]?
  high : ∀ k, g < k → k < w.heap.size → tyOf w k ≠ some 5 → w'.heap[k]? = w.heap[k]?
theorem WFr.refl (g : Nat) (w : World) : WFr g w w := ⟨rfl, rfl, rfl, Nat.le_refl _, fun _ _ => rfl, fun _ _ _ _ => rfl⟩
theorem WFr.trans {g : Nat} {a b c : World} (h : WFr g a b) (k : WFr g b c) : WFr g a c :=
  ⟨k.os.trans h.os, k.tape.trans h.tape, k.output.trans h.output, Nat.le_trans h.size k.size, fun i hi => (k.low i hi).trans (h.low i hi), fun i hi hl ht => by
    have e := h.high i hi hl ht
    rw [k.high i hi (Nat.lt_of_lt_of_le hl h.size) (by unfold tyOf at ht ⊢; rw [e]; exact ht), e]⟩
theorem WFr.of_below {g : Nat} {w w' : World} (h : Below w.heap.size w w') (hg : g < w.heap.size) : WFr g w w' := ⟨h.os, h.tape, h.output, h.size, fun k hk => h.block k (by omega), fun k _ hk _ => h.block k hk⟩
theorem WFr.setCell {g : Nat} {a w : World} (h : WFr g a w) (k : Nat) (u : Value) : WFr g a (w.setCell ⟨g, k, none⟩ u) :=
  h.trans ⟨rfl, rfl, rfl, by simp [World.setCell], fun i hi => Below.heap_setCell _ _ _ _ (by simp only; omega), fun i hi _ _ => Below.heap_setCell _ _ _ _ (by simp only; omega)⟩
theorem WFr.below {g : Nat} {w w' : World} (h : WFr g w w') : Below g w w' := ⟨h.os, h.tape, h.output, h.size, h.low⟩
theorem WFr.block {g : Nat} {w w' : World} (h : WFr g w w') {k : Nat} {cs : Array Value} {t : TypeId} (hk : w.heap[k]? = some (.cells cs t (0, 0))) (hn : k ≠ g) (ht : t ≠ 5) : w'.heap[k]? = some (.cells cs t (0, 0)) := by
  have hl := (Array.getElem?_eq_some_iff.1 hk).1
  rcases Nat.lt_or_gt_of_ne hn with h1 | h1
  · rw [h.low k h1]; exact hk
  · rw [h.high k h1 hl (by unfold tyOf; rw [hk]; intro e; exact ht (Option.some.inj e))]; exact hk
theorem WS.lt {w : World} {g : Nat} {b : List Int} {bad : Bool} (h : WS w g b bad) : g < w.heap.size := by
  obtain ⟨⟨P, c, h1, _⟩, _⟩ := h
  exact (Array.getElem?_eq_some_iff.1 h1).1
theorem WS.keep {w w' : World} {g : Nat} {b : List Int} {bad : Bool} (h : WS w g b bad) (hb : Below w.heap.size w w') : WS w' g b bad := by
  obtain ⟨⟨P, c, h1, h2⟩, h3⟩ := id h
  exact ⟨⟨P, c, by rw [hb.block g h.lt]; exact h1, h2.keep hb⟩, h3⟩
/-- What is laid behind, if it may be, and there is room. -/
structure Puts (b : List Int) (bad : Bool) (b' : List Int) (bad' : Bool) (ok : Bool) (x : List Int) : Prop where
  iff : bad' = false ↔ (bad = false ∧ ok = true ∧ b.length + x.length ≤ 65536)
  eq : bad' = false → b' = b ++ x
theorem Puts.trans {b b1 b2 x1 x2 : List Int} {d d1 d2 o1 o2 : Bool} (h : Puts b d b1 d1 o1 x1) (k : Puts b1 d1 b2 d2 o2 x2) : Puts b d b2 d2 (o1 && o2) (x1 ++ x2) := by
  refine ⟨⟨fun e => ?_, fun ⟨e1, e2, e3⟩ => ?_⟩, fun e => ?_⟩
  · obtain ⟨g1, g2, g3⟩ := k.iff.1 e
    obtain ⟨g4, g5, g6⟩ := h.iff.1 g1
    rw [h.eq g1, List.length_append] at g3
    refine ⟨g4, by rw [g5, g2]; rfl, by rw [List.length_append]; omega⟩
  · rw [Bool.and_eq_true] at e2
    rw [List.length_append] at e3
    have g1 := h.iff.2 ⟨e1, e2.1, by omega⟩
    exact k.iff.2 ⟨g1, e2.2, by rw [h.eq g1, List.length_append]; omega⟩
  · obtain ⟨g1, _, _⟩ := k.iff.1 e
    rw [k.eq e, h.eq g1, List.append_assoc]
theorem Puts.stop {b b1 x1 x2 : List Int} {d o1 o2 : Bool} (h : Puts b d b1 true o1 x1) : Puts b d b1 true (o1 && o2) (x1 ++ x2) := by
  refine ⟨⟨fun e => (by cases e), fun ⟨e1, e2, e3⟩ => ?_⟩, fun e => (by cases e)⟩
  rw [Bool.and_eq_true] at e2
  rw [List.length_append] at e3
  have := h.iff.2 ⟨e1, e2.1, by omega⟩
  cases this
theorem Puts.same (b : List Int) (bad : Bool) (hb : b.length ≤ 65536) : Puts b bad b bad true [] := ⟨⟨fun e => ⟨e, rfl, by simpa using hb⟩, fun e => e.1⟩, fun _ => by simp⟩
/-- How a writer's call ends. -/
def WTold (g : Nat) (b : List Int) (bad ok : Bool) (x : List Int) (w : World) (en : Ending) (w' : World) : Prop := ∃ b' bad', en = .returned (.tuple #[]) ∧ WS w' g b' bad' ∧ Puts b bad b' bad' ok x ∧ WFr g w w'
theorem WS.set1 {w : World} {g : Nat} {b : List Int} {bad : Bool} (h : WS w g b bad) (d : Bool) : WS (w.setCell ⟨g, 1, none⟩ (.bool d)) g b d := by
  obtain ⟨⟨P, c, h1, h2⟩, h3⟩ := h
  refine ⟨⟨P, c, by have := heap_setCell_in (k := 1) h1 (.bool d); simpa using this, ?_⟩, h3⟩
  obtain ⟨q1, q2⟩ := h2
  refine ⟨q1, ?_⟩
  rcases q2 with q2 | ⟨g', cap, cur, hv, hB, hc, hr⟩
  · exact .inl q2
  · exact .inr ⟨g', cap, cur, hv, hB, by rw [Below.heap_setCell _ _ _ _ (by simp only; omega)]; exact hc, hr⟩
theorem wneed {w : World} {g : Nat} {b : List Int} {bad : Bool} (ok : Bool) (h : WS w g b bad) :
    Calls Tryz.prog 192 #[.pointer (some ⟨g, 0, none⟩), .bool ok] w fun en w' => en = .returned (.tuple #[]) ∧ w' = w.setCell ⟨g, 1, none⟩ (.bool (bad || !ok)) := by
  obtain ⟨⟨P, c, h1, h2⟩, h3⟩ := h
  have c1 := (Sec.cells_at h1 1).1
  have f1 := (Sec.cells_at h1 1).2
  clear h1 h2 h3
  cases bad <;> cases ok <;> (
    go_enter Tryz.func192, Tryz.ntmps192
    go_wp2_with fail
    exact bodyPost_end (v := .tuple #[]) (by simp [results, Tryz.results192, go_sem]) rfl ⟨rfl, rfl⟩)
end Go.Proofs.YtffegkjlgeblbaaGreatDoor.Mdl
end
