/- ModWI, ModSEImport. -/
import Derived.Test.YtffegkjlgeblbaaGreatDoorPkModEq
import Derived.Test.YtffegkjlgeblbaaGreatDoorPkModWA4
import Derived.Test.YtffegkjlgeblbaaGreatDoorPkModWLI
section
/- The program's writer: imports. -/
namespace Go.Proofs.YtffegkjlgeblbaaGreatDoor.Mdl
open Go.RowKit Ints Typ Ins
set_option maxRecDepth 100000
set_option maxHeartbeats 4000000
set_option linter.unusedVariables false
theorem tl_inj {a b : ByteArray} : a.toList = b.toList ↔ a = b := ⟨fun e => by
  rw [Lib.toList_data, Lib.toList_data] at e
  exact ByteArray.ext (Array.toList_inj.1 e), fun e => by rw [e]⟩
theorem run_ld9 {W : World} {b : Nat} {c0 c1 c2 c3 c4 c5 c6 c7 c8 : Value} (h : W.heap[b]? = some (.cells #[c0, c1, c2, c3, c4, c5, c6, c7, c8] 63 (0, 0))) :
    (Instr.loadAt 63 (.pointer (some ⟨b, 0, none⟩))).run Tryz.prog W = .ok (.agg #[c0, c1, c2, c3, c4, c5, c6, c7, c8]) W := by
  have q0 := (Sec.cells_at h 0).1
  have q1 := (Sec.cells_at h 1).1
  have q2 := (Sec.cells_at h 2).1
  have q3 := (Sec.cells_at h 3).1
  have q4 := (Sec.cells_at h 4).1
  have q5 := (Sec.cells_at h 5).1
  have q6 := (Sec.cells_at h 6).1
  have q7 := (Sec.cells_at h 7).1
  have q8 := (Sec.cells_at h 8).1
  clear h
  go_simp
theorem wimp_core {w : World} {g : Nat} {b : List Int} {bad ok ok4 : Bool} {x4 : List Int} (md nm : ByteArray) (kind ty lx ly : Int) (lz : Bool) (val : Int) (mt : Bool) (ow : Array Value) (hz1 : md.size ≤ 1000) (hz2 : nm.size ≤ 1000)
    (hown : ∀ W, Calls Tryz.prog 193 #[.agg #[.string md, .string nm, .int .i64 kind, .int .i64 ty, .int .i64 lx, .int .i64 ly, .bool lz, .int .u8 val, .bool mt]] W fun en w' => en = .returned (.agg ow) ∧ Below W.heap.size W w')
    (heq : ∀ x y W, (do eqGuard BinOp.eql 63 x y (.agg #[.string md, .string nm, .int .i64 kind, .int .i64 ty, .int .i64 lx, .int .i64 ly, .bool lz, .int .u8 val, .bool mt]) (.agg ow); binOp BinOp.eql 63 (.agg #[.string md, .string nm, .int .i64 kind, .int .i64 ty, .int .i64 lx, .int .i64 ly, .bool lz, .int .u8 val, .bool mt]) (.agg ow) : Sem Value).run Tryz.prog W = .ok (.bool ok) W)
    (b0 b1 b2 b3 : Bool) (k0 : (kind == 0) = b0) (k1 : (kind == 1) = b1) (k2 : (kind == 2) = b2) (k3 : (kind == 3) = b3)
    (hk : (b0 = true ∧ ok4 = okU ty ∧ x4 = numB ty) ∨ (b0 = false ∧ b1 = true ∧ ok4 = okL lx ly lz ∧ x4 = 112 :: limB lx ly lz) ∨ (b0 = false ∧ b1 = false ∧ b2 = true ∧ ok4 = okL lx ly lz ∧ x4 = limB lx ly lz) ∨ (b0 = false ∧ b1 = false ∧ b2 = false ∧ b3 = true ∧ ok4 = isV val ∧ x4 = [val] ++ flB mt) ∨ (b0 = false ∧ b1 = false ∧ b2 = false ∧ b3 = false ∧ ok4 = true ∧ x4 = []))
    (h : WS w g b bad) :
    Calls Tryz.prog 147 #[.pointer (some ⟨g, 0, none⟩), .agg #[.string md, .string nm, .int .i64 kind, .int .i64 ty, .int .i64 lx, .int .i64 ly, .bool lz, .int .u8 val, .bool mt]] w (WTold g b bad (ok && okN md && okN nm && okK kind && ok4) (nmB md ++ nmB nm ++ numB kind ++ x4) w) := by
  have HA := Lib.hid ((Below.refl w.heap.size w).alloc (Nat.le_refl _) (.cells #[.string md, .string nm, .int .i64 kind, .int .i64 ty, .int .i64 lx, .int .i64 ly, .bool lz, .int .u8 val, .bool mt] 63))
  have HC : Hid ((w.alloc (.cells #[.string md, .string nm, .int .i64 kind, .int .i64 ty, .int .i64 lx, .int .i64 ly, .bool lz, .int .u8 val, .bool mt] 63)).heap[w.heap.size]? = some (.cells #[.string md, .string nm, .int .i64 kind, .int .i64 ty, .int .i64 lx, .int .i64 ly, .bool lz, .int .u8 val, .bool mt] 63 (0, 0))) := Lib.hid (Sec.heap_new w _)
  obtain ⟨W0, hW0⟩ : ∃ W, w.alloc (.cells #[.string md, .string nm, .int .i64 kind, .int .i64 ty, .int .i64 lx, .int .i64 ly, .bool lz, .int .u8 val, .bool mt] 63) = W := ⟨_, rfl⟩
  have HW0 := Lib.hid hW0
  rw [hW0] at HA HC
  have HS := Lib.hid (h.keep HA.out)
  have HGW : Hid (w.heap.size ≠ g) := Lib.hid (by have := h.lt; omega)
  have HF := Lib.hid (WFr.of_below HA.out h.lt)
  have HOWN := Lib.hid hown
  have HEQ := Lib.hid heq
  have HZ1 := Lib.hid hz1
  have HZ2 := Lib.hid hz2
  have HK := Lib.hid hk
  have HKK : Hid ((kind == 0) = b0 ∧ (kind == 1) = b1 ∧ (kind == 2) = b2 ∧ (kind == 3) = b3) := Lib.hid ⟨k0, k1, k2, k3⟩
  obtain ⟨TO, hTO⟩ : ∃ r, (ok && okN md && okN nm && okK kind && ok4) = r := ⟨_, rfl⟩
  obtain ⟨TX, hTX⟩ : ∃ r, nmB md ++ nmB nm ++ numB kind ++ x4 = r := ⟨_, rfl⟩
  have HTO := Lib.hid hTO
  have HTX := Lib.hid hTX
  rw [hTO, hTX]
  have q0 := fun W (hb : Below W0.heap.size W0 W) => run_ld9 (bx_keep HC.out hb)
  have HLD := Lib.hid q0
  clear h hW0 hown heq hz1 hz2 hk k0 k1 k2 k3 hTO hTX q0
  go_enter Tryz.func147, Tryz.ntmps147
  go_wp2_with fail
  rw [HW0.out]
  go_cut [8] from 4 to 9 (fun t8 wx => t8 = .bool ok ∧ ∃ w1, Below W0.heap.size W0 w1 ∧ wx = w1.setCell ⟨g, 1, none⟩ (.bool (bad || !ok)))
  case first =>
    refine Stab.region_tail 5 52 [.is (.pointer (some ⟨g, 0, none⟩)), .is (.agg #[.string md, .string nm, .int .i64 kind, .int .i64 ty, .int .i64 lx, .int .i64 ly, .bool lz, .int .u8 val, .bool mt]), .is (.agg #[.string md, .string nm, .int .i64 kind, .int .i64 ty, .int .i64 lx, .int .i64 ly, .bool lz, .int .u8 val, .bool mt]), .is (.agg ow), .is (.bool ok)] (by kernel_rfl) (by kernel_rfl) (by kernel_rfl) (by kernel_rfl) rfl rfl ?_ ?_
    · simp only [List.take_succ_cons, List.take_zero]
      with_reducible refine Stab.steps_cons ?_ ?_ ?_
      · exact Stab.owes_move rfl rfl rfl
      · exact trivial
      with_reducible refine Stab.steps_cons ?_ ?_ ?_
      · exact Stab.owes_load rfl (fun v W hb hv => by subst hv; exact HLD.out W hb) rfl
      · exact trivial
      with_reducible refine Stab.steps_cons ?_ ?_ ?_
      · exact Stab.owes_load rfl (fun v W hb hv => by subst hv; exact HLD.out W hb) rfl
      · exact trivial
      with_reducible refine Stab.steps_cons ?_ ?_ ?_
      · (refine Stab.owes_call Tryz.func193 (by kernel_rfl) (by kernel_rfl) rfl (fun vs W hb hall => ?_) rfl; obtain ⟨_, _, rfl, rfl, rfl⟩ := hall; (with_reducible refine (HOWN.out W).mono ?_); rintro e w2 ⟨rfl, hb2⟩; exact ⟨_, rfl, hb2, rfl⟩)
      · exact trivial
      with_reducible refine Stab.steps_cons ?_ ?_ ?_
      · exact Stab.owes_bin rfl rfl rfl (fun W => HEQ.out _ _ W) rfl
      · exact trivial
      exact Stab.steps_nil
    · simp only [List.take_succ_cons, List.take_zero, List.drop_succ_cons, List.drop_zero]
      intro W hb _
      simp only [Act.put, List.setIfInBounds_toArray, List.set_cons_succ, List.set_cons_zero]
      have HB := Lib.hid hb
      have HWN := Lib.hid (wneed ok (HS.out.keep hb))
      clear hb
      go_wp2_with fail
      refine HWN.out.mono ?_
      rintro en w2 ⟨rfl, rfl⟩
      go_wp2_with fail
      go_meet
      case rel => exact ⟨rfl, W, HB.out, rfl⟩
  case rest =>
    obtain ⟨rfl, w1, hb1, hwc⟩ := hcut
    have HSC : Hid (WS wc g b (bad || !ok)) := Lib.hid (by rw [hwc]; exact (HS.out.keep hb1).set1 _)
    have HFC : Hid (WFr g w wc) := Lib.hid (by rw [hwc]; exact (HF.out.trans (WFr.of_below hb1 HS.out.lt)).setCell _ _)
    have HPC := Lib.hid (Puts.need bad ok HS.out.le)
    have HCC : Hid (wc.heap[w.heap.size]? = some (.cells #[.string md, .string nm, .int .i64 kind, .int .i64 ty, .int .i64 lx, .int .i64 ly, .bool lz, .int .u8 val, .bool mt] 63 (0, 0))) := Lib.hid (by rw [hwc, Below.heap_setCell _ _ _ _ (by have := HGW.out; simp only; omega)]; exact bx_keep HC.out hb1)
    clear hwc hb1
    have c0 := (Sec.cells_at HCC.out 0).1
    go_wp2_with fail
    refine (wname md HZ1.out HSC.out).mono ?_
    rintro en w2 ⟨b2, bad2, rfl, hs2, hp2, hf2⟩
    have HP2 := Lib.hid (HPC.out.trans hp2)
    have HF2 := Lib.hid (HFC.out.trans hf2)
    have HS2 := Lib.hid hs2
    have HC2 : Hid (w2.heap[w.heap.size]? = some (.cells #[.string md, .string nm, .int .i64 kind, .int .i64 ty, .int .i64 lx, .int .i64 ly, .bool lz, .int .u8 val, .bool mt] 63 (0, 0))) := Lib.hid (hf2.block HCC.out HGW.out (by decide))
    clear hp2 hf2 hs2 c0
    have c1 := (Sec.cells_at HC2.out 1).1
    go_wp2_with fail
    refine (wname nm HZ2.out HS2.out).mono ?_
    rintro en w3 ⟨b3', bad3, rfl, hs3, hp3, hf3⟩
    have HP3 := Lib.hid (HP2.out.trans hp3)
    have HF3 := Lib.hid (HF2.out.trans hf3)
    have HS3 := Lib.hid hs3
    have HC3 : Hid (w3.heap[w.heap.size]? = some (.cells #[.string md, .string nm, .int .i64 kind, .int .i64 ty, .int .i64 lx, .int .i64 ly, .bool lz, .int .u8 val, .bool mt] 63 (0, 0))) := Lib.hid (hf3.block HC2.out HGW.out (by decide))
    clear hp3 hf3 hs3 c1
    have c2 := (Sec.cells_at HC3.out 2).1
    go_wp2_with fail
    refine (wkind kind HS3.out).mono ?_
    rintro en w4 ⟨b4, bad4, rfl, hs4, hp4, hf4⟩
    have HP4 : Hid (Puts b bad b4 bad4 (ok && okN md && okN nm && okK kind) (nmB md ++ nmB nm ++ numB kind)) := Lib.hid (by have := HP3.out.trans hp4; rw [List.nil_append] at this; exact this)
    have HF4 := Lib.hid (HF3.out.trans hf4)
    have HS4 := Lib.hid hs4
    have HC4 : Hid (w4.heap[w.heap.size]? = some (.cells #[.string md, .string nm, .int .i64 kind, .int .i64 ty, .int .i64 lx, .int .i64 ly, .bool lz, .int .u8 val, .bool mt] 63 (0, 0))) := Lib.hid (hf4.block HC3.out HGW.out (by decide))
    clear hp4 hf4 hs4 c2
    have c2 := (Sec.cells_at HC4.out 2).1
    have c3 := (Sec.cells_at HC4.out 3).1
    have c4 := (Sec.cells_at HC4.out 4).1
    have c5 := (Sec.cells_at HC4.out 5).1
    have c6 := (Sec.cells_at HC4.out 6).1
    have c7 := (Sec.cells_at HC4.out 7).1
    have c8 := (Sec.cells_at HC4.out 8).1
    obtain ⟨g0, g1, g2, g3⟩ := HKK.out
    rcases HK.out with ⟨rfl, e1, e2⟩ | ⟨rfl, rfl, e1, e2⟩ | ⟨rfl, rfl, rfl, e1, e2⟩ | ⟨rfl, rfl, rfl, rfl, e1, e2⟩ | ⟨rfl, rfl, rfl, rfl, e1, e2⟩
    · have HE1 := Lib.hid e1
      have HE2 := Lib.hid e2
      clear e1 e2
      go_wp2_with fail
      refine (wnumA ty HS4.out).mono ?_
      rintro en w5 hq
      have HE : Hid (WTold g b bad TO TX w en w5) := Lib.hid (by rw [← HTO.out, ← HTX.out, HE1.out, HE2.out]; exact WTold.next HP4.out HF4.out hq)
      obtain ⟨b', bad', rfl, _, _, _⟩ := hq
      go_wp2_with fail
      exact bodyPost_end (v := .tuple #[]) (by simp [results, Tryz.results147, go_sem]) rfl HE.out
    · have HE1 := Lib.hid e1
      have HE2 := Lib.hid e2
      clear e1 e2
      go_wp2_with fail
      refine (wtab lx ly lz HS4.out).mono ?_
      rintro en w5 hq
      have HE : Hid (WTold g b bad TO TX w en w5) := Lib.hid (by rw [← HTO.out, ← HTX.out, HE1.out, HE2.out]; exact WTold.next HP4.out HF4.out hq)
      obtain ⟨b', bad', rfl, _, _, _⟩ := hq
      go_wp2_with fail
      exact bodyPost_end (v := .tuple #[]) (by simp [results, Tryz.results147, go_sem]) rfl HE.out
    · have HE1 := Lib.hid e1
      have HE2 := Lib.hid e2
      clear e1 e2
      go_wp2_with fail
      refine (wlim lx ly lz HS4.out).mono ?_
      rintro en w5 hq
      have HE : Hid (WTold g b bad TO TX w en w5) := Lib.hid (by rw [← HTO.out, ← HTX.out, HE1.out, HE2.out]; exact WTold.next HP4.out HF4.out hq)
      obtain ⟨b', bad', rfl, _, _, _⟩ := hq
      go_wp2_with fail
      exact bodyPost_end (v := .tuple #[]) (by simp [results, Tryz.results147, go_sem]) rfl HE.out
    · have HE1 := Lib.hid e1
      have HE2 := Lib.hid e2
      clear e1 e2
      go_wp2_with fail
      refine (wval val HS4.out).mono ?_
      rintro en w5 ⟨b5, bad5, rfl, hs5, hp5, hf5⟩
      have HP5 := Lib.hid (HP4.out.trans hp5)
      have HF5 := Lib.hid (HF4.out.trans hf5)
      have HS5 := Lib.hid hs5
      have HC5 : Hid (w5.heap[w.heap.size]? = some (.cells #[.string md, .string nm, .int .i64 kind, .int .i64 ty, .int .i64 lx, .int .i64 ly, .bool lz, .int .u8 val, .bool mt] 63 (0, 0))) := Lib.hid (hf5.block HC4.out HGW.out (by decide))
      clear hp5 hf5 hs5 c2 c3 c4 c5 c6 c7 c8
      have c8 := (Sec.cells_at HC5.out 8).1
      go_wp2_with fail
      refine (wflag mt HS5.out).mono ?_
      rintro en w6 hq
      have HE : Hid (WTold g b bad TO TX w en w6) := Lib.hid (by
        rw [← HTO.out, ← HTX.out, HE1.out, HE2.out]
        have := WTold.next HP5.out HF5.out hq
        rw [Bool.and_true, List.append_assoc] at this
        exact this)
      obtain ⟨b', bad', rfl, _, _, _⟩ := hq
      go_wp2_with fail
      exact bodyPost_end (v := .tuple #[]) (by simp [results, Tryz.results147, go_sem]) rfl HE.out
    · have HE : Hid (WTold g b bad TO TX w (.returned (.tuple #[])) w4) := Lib.hid ⟨b4, bad4, rfl, HS4.out, by rw [← HTO.out, ← HTX.out, e1, e2, Bool.and_true, List.append_nil]; exact HP4.out, HF4.out⟩
      clear e1 e2
      go_wp2_with fail
      exact bodyPost_end (v := .tuple #[]) (by simp [results, Tryz.results147, go_sem]) rfl HE.out
theorem wimported {w : World} {g : Nat} {b : List Int} {bad : Bool} (p : ImpT) (hz1 : p.md.size ≤ 1000) (hz2 : p.nm.size ≤ 1000) (h : WS w g b bad) :
    Calls Tryz.prog 147 #[.pointer (some ⟨g, 0, none⟩), .agg #[.string p.md, .string p.nm, .int .i64 p.kind, .int .i64 p.ty, .int .i64 p.lim.1, .int .i64 p.lim.2.1, .bool p.lim.2.2, .int .u8 p.val, .bool p.mt]] w (WTold g b bad (okI p) (impB p) w) := by
  obtain ⟨md, nm, kind, ty, ⟨lx, ly, lz⟩, val, mt⟩ := p
  simp only at hz1 hz2 ⊢
  have key : ∀ (ok : Bool) (ow : Array Value), (∀ W, Calls Tryz.prog 193 #[.agg #[.string md, .string nm, .int .i64 kind, .int .i64 ty, .int .i64 lx, .int .i64 ly, .bool lz, .int .u8 val, .bool mt]] W fun en w' => en = .returned (.agg ow) ∧ Below W.heap.size W w') → (∀ x y W, (do eqGuard BinOp.eql 63 x y (.agg #[.string md, .string nm, .int .i64 kind, .int .i64 ty, .int .i64 lx, .int .i64 ly, .bool lz, .int .u8 val, .bool mt]) (.agg ow); binOp BinOp.eql 63 (.agg #[.string md, .string nm, .int .i64 kind, .int .i64 ty, .int .i64 lx, .int .i64 ly, .bool lz, .int .u8 val, .bool mt]) (.agg ow) : Sem Value).run Tryz.prog W = .ok (.bool ok) W) → okOwn ⟨md, nm, kind, ty, (lx, ly, lz), val, mt⟩ = ok →
      Calls Tryz.prog 147 #[.pointer (some ⟨g, 0, none⟩), .agg #[.string md, .string nm, .int .i64 kind, .int .i64 ty, .int .i64 lx, .int .i64 ly, .bool lz, .int .u8 val, .bool mt]] w (WTold g b bad (okI ⟨md, nm, kind, ty, (lx, ly, lz), val, mt⟩) (impB ⟨md, nm, kind, ty, (lx, ly, lz), val, mt⟩) w) := by
    intro ok ow h1 h2 h3
    unfold okI impB
    rw [h3]
    refine wimp_core md nm kind ty lx ly lz val mt ow hz1 hz2 h1 h2 _ _ _ _ rfl rfl rfl rfl ?_ h
    unfold okTl impTl
    simp only [beq_iff_eq, beq_eq_false_iff_ne]
    by_cases k0 : kind = 0
    · left; simp [k0]
    · by_cases k1 : kind = 1
      · right; left; simp [k1]
      · by_cases k2 : kind = 2
        · right; right; left; simp [k2]
        · by_cases k3 : kind = 3
          · right; right; right; left; simp [k3]
          · right; right; right; right; simp [k0, k1, k2, k3]
  by_cases k0 : kind = 0
  · refine key _ _ (fun W => own_k0 md nm kind ty lx ly lz val mt W (by simp [k0]) (by simp [k0]) (by simp [k0]) (by simp [k0])) (fun x y W => eq_imp md nm kind ty lx ly lz val mt _ _ _ _ _ _ _ _ _ x y W) ?_
    simp [okOwn, k0, Bool.decide_and, Prod.mk.injEq, Bool.and_assoc]
  · by_cases k1 : kind = 1
    · refine key _ _ (fun W => own_k1 md nm kind ty lx ly lz val mt W (by simp [k1]) (by simp [k1]) (by simp [k1]) (by simp [k1])) (fun x y W => eq_imp md nm kind ty lx ly lz val mt _ _ _ _ _ _ _ _ _ x y W) ?_
      simp [okOwn, k1, Bool.decide_and, Prod.mk.injEq, Bool.and_assoc]
    · by_cases k2 : kind = 2
      · refine key _ _ (fun W => own_k2 md nm kind ty lx ly lz val mt W (by simp [k2]) (by simp [k2]) (by simp [k2]) (by simp [k2])) (fun x y W => eq_imp md nm kind ty lx ly lz val mt _ _ _ _ _ _ _ _ _ x y W) ?_
        simp [okOwn, k2, Bool.decide_and, Prod.mk.injEq, Bool.and_assoc]
      · by_cases k3 : kind = 3
        · refine key _ _ (fun W => own_k3 md nm kind ty lx ly lz val mt W (by simp [k3]) (by simp [k3]) (by simp [k3]) (by simp [k3])) (fun x y W => eq_imp md nm kind ty lx ly lz val mt _ _ _ _ _ _ _ _ _ x y W) ?_
          simp [okOwn, k3, Bool.decide_and, Prod.mk.injEq, Bool.and_assoc]
        · refine key _ _ (fun W => own_k4 md nm kind ty lx ly lz val mt W (by simp [k0]) (by simp [k1]) (by simp [k2]) (by simp [k3])) (fun x y W => eq_imp md nm kind ty lx ly lz val mt _ _ _ _ _ _ _ _ _ x y W) ?_
          simp [okOwn, k0, k1, k2, k3, Bool.decide_and, Prod.mk.injEq, Bool.and_assoc]
end Go.Proofs.YtffegkjlgeblbaaGreatDoor.Mdl
end

section
/- Are two lists of Import the same, by the program: walked. -/
namespace Go.Proofs.YtffegkjlgeblbaaGreatDoor.Mdl
open Go.RowKit Ints Typ Ins
set_option maxRecDepth 100000
set_option maxHeartbeats 4000000
set_option linter.unusedVariables false
theorem bat_Import (g off k n c : Nat) (W : World) (h1 : (0 : Int) ≤ (k : Int)) (h2 : (k : Int) < (n : Int)) : (Instr.indexAt 25 (.slice (some ⟨g, off, none⟩) n c) (.int .i64 (k : Int))).run Tryz.prog W = .ok (.pointer (some ⟨g, off + k * 9, none⟩)) W := by go_simp
theorem ldAt_Import {W : World} {b o : Nat} {p : ImpT} (h : ∀ i u, (elI.enc p)[i]? = some u → W.cell? ⟨b, o + i, none⟩ = some u) : (Instr.loadAt 63 (.pointer (some ⟨b, o, none⟩))).run Tryz.prog W = .ok (.agg #[.string p.md, .string p.nm, .int .i64 p.kind, .int .i64 p.ty, .int .i64 p.lim.1, .int .i64 p.lim.2.1, .bool p.lim.2.2, .int .u8 p.val, .bool p.mt]) W := by
  have q0 := h 0 (.string p.md) rfl
  have q1 := h 1 (.string p.nm) rfl
  have q2 := h 2 (.int .i64 p.kind) rfl
  have q3 := h 3 (.int .i64 p.ty) rfl
  have q4 := h 4 (.int .i64 p.lim.1) rfl
  have q5 := h 5 (.int .i64 p.lim.2.1) rfl
  have q6 := h 6 (.bool p.lim.2.2) rfl
  have q7 := h 7 (.int .u8 p.val) rfl
  have q8 := h 8 (.bool p.mt) rfl
  rw [Nat.add_zero] at q0
  clear h
  go_simp
theorem pel_Import {a b : List ImpT} {A B : Option Addr} {n c d : Nat} {w : World} (hn1 : a.length = n) (hn2 : b.length = n) (hbig : n ≤ 100000) (ha : RowG.Row elI w (.slice A n c) a) (hb : RowG.Row elI w (.slice B n d) b) :
    Calls Tryz.prog 50 #[.slice A n c, .slice B n d] w fun e w' => (∃ r : Bool, e = .returned (.bool r) ∧ (r = true ↔ a = b)) ∧ Below w.heap.size w w' := by
  have HN := Lib.hid hn1
  have HM := Lib.hid hn2
  have HA := Lib.hid ha
  have HB := Lib.hid hb
  clear hn1 hn2 ha hb
  go_enter Tryz.func50, Tryz.ntmps50
  go_wp2_with fail
  go_loopw [13] (fun j' wr => ∃ k : Nat, j' = .int .i64 (k : Int) ∧ k ≤ n ∧ (∀ i, i < k → a[i]? = b[i]?) ∧ Below w.heap.size w wr) (fun j' _ => n - (intOf j').toNat)
  case atStart => exact ⟨0, by go_num, Nat.zero_le _, fun i hi => absurd hi (by omega), Below.refl _ _⟩
  case round =>
    obtain ⟨k, rfl, hk, ht, hW⟩ := hrel
    have HALL := Lib.hid ht
    have HW := Lib.hid hW
    clear ht hW
    by_cases hlt : k < n
    · obtain ⟨p1, hx⟩ : ∃ y, a[k]? = some y := ⟨_, List.getElem?_eq_getElem (by rw [HN.out]; exact hlt)⟩
      obtain ⟨p2, hy⟩ : ∃ y, b[k]? = some y := ⟨_, List.getElem?_eq_getElem (by rw [HM.out]; exact hlt)⟩
      have HX := Lib.hid hx
      have HY := Lib.hid hy
      obtain ⟨g1, f1, rfl, hg1, hA1, hok1⟩ := (HA.out.keep HW.out).at_ hx
      obtain ⟨g2, f2, rfl, hg2, hA2, hok2⟩ := (HB.out.keep HW.out).at_ hy
      rw [show (elI.s) = 9 from rfl] at hA1 hA2
      obtain ⟨md1, nm1, kind1, ty1, ⟨lx1, ly1, lz1⟩, val1, mt1⟩ := p1
      obtain ⟨md2, nm2, kind2, ty2, ⟨lx2, ly2, lz2⟩, val2, mt2⟩ := p2
      have HLD1 : Hid (∀ W, Below wr.heap.size wr W → (Instr.loadAt 63 (.pointer (some ⟨g1, f1 + k * 9, none⟩))).run Tryz.prog W = .ok (.agg #[.string md1, .string nm1, .int .i64 kind1, .int .i64 ty1, .int .i64 lx1, .int .i64 ly1, .bool lz1, .int .u8 val1, .bool mt1]) W) := Lib.hid fun W hb => ldAt_Import (fun i u hu => by rw [hb.cell (p := ⟨g1, f1 + k * 9 + i, none⟩) hg1]; exact hA1 i u hu)
      have HLD2 : Hid (∀ W, Below wr.heap.size wr W → (Instr.loadAt 63 (.pointer (some ⟨g2, f2 + k * 9, none⟩))).run Tryz.prog W = .ok (.agg #[.string md2, .string nm2, .int .i64 kind2, .int .i64 ty2, .int .i64 lx2, .int .i64 ly2, .bool lz2, .int .u8 val2, .bool mt2]) W) := Lib.hid fun W hb => ldAt_Import (fun i u hu => by rw [hb.cell (p := ⟨g2, f2 + k * 9 + i, none⟩) hg2]; exact hA2 i u hu)
      clear hx hy hA1 hA2 hg1 hg2 hok1 hok2
      have hin1 : (0 : Int) ≤ (k : Int) := by omega
      have hin2 : (k : Int) < (n : Int) := by omega
      have hw1 : IntKind.i64.wrap ((k : Int) + 1) = (k : Int) + 1 := IntWalk.i64_in _ (by omega)
      have hne := fun (x y : Operand) (W : World) => ne_imp md1 nm1 kind1 ty1 lx1 ly1 lz1 val1 mt1 md2 nm2 kind2 ty2 lx2 ly2 lz2 val2 mt2 x y W
      obtain ⟨bb, hbb⟩ : ∃ bb, (!(decide (md1.toList = md2.toList) && decide (nm1.toList = nm2.toList) && decide (kind1 = kind2) && decide (ty1 = ty2) && decide (lx1 = lx2) && decide (ly1 = ly2) && decide (lz1 = lz2) && decide (val1 = val2) && decide (mt1 = mt2))) = bb := ⟨_, rfl⟩
      have HBB := Lib.hid hbb
      rw [hbb] at hne
      clear hbb
      cases bb with
      | true =>
        have HQ : Hid (false = true ↔ a = b) := ⟨fun h => (by cases h), fun h => by
          have h1 := HX.out
          rw [h, HY.out] at h1
          have h2 := Option.some.inj h1
          have h3 := HBB.out
          cases h2
          simp at h3⟩
        go_wp2_with fail
        refine Stab.region 26 [.is (.slice (some ⟨g1, f1, none⟩) n c), .is (.int .i64 (k : Int)), .is (.pointer (some ⟨g1, f1 + k * 9, none⟩)), .is (.agg #[.string md1, .string nm1, .int .i64 kind1, .int .i64 ty1, .int .i64 lx1, .int .i64 ly1, .bool lz1, .int .u8 val1, .bool mt1]), .is (.slice (some ⟨g2, f2, none⟩) n d), .is (.int .i64 (k : Int)), .is (.pointer (some ⟨g2, f2 + k * 9, none⟩)), .is (.agg #[.string md2, .string nm2, .int .i64 kind2, .int .i64 ty2, .int .i64 lx2, .int .i64 ly2, .bool lz2, .int .u8 val2, .bool mt2]), .is (.bool true)] (by kernel_rfl) (by kernel_rfl) rfl rfl ?_ ?_
        · with_reducible refine Stab.steps_cons ?_ ?_ ?_
          · exact Stab.owes_move rfl rfl rfl
          · exact trivial
          with_reducible refine Stab.steps_cons ?_ ?_ ?_
          · exact Stab.owes_move rfl rfl rfl
          · exact trivial
          with_reducible refine Stab.steps_cons ?_ ?_ ?_
          · exact Stab.owes_indexAt rfl rfl rfl (fun W => bat_Import _ _ _ _ _ W hin1 hin2) rfl
          · exact trivial
          with_reducible refine Stab.steps_cons ?_ ?_ ?_
          · exact Stab.owes_load rfl (fun v W hb hv => by subst hv; exact HLD1.out W hb) rfl
          · exact trivial
          with_reducible refine Stab.steps_cons ?_ ?_ ?_
          · exact Stab.owes_move rfl rfl rfl
          · exact trivial
          with_reducible refine Stab.steps_cons ?_ ?_ ?_
          · exact Stab.owes_move rfl rfl rfl
          · exact trivial
          with_reducible refine Stab.steps_cons ?_ ?_ ?_
          · exact Stab.owes_indexAt rfl rfl rfl (fun W => bat_Import _ _ _ _ _ W hin1 hin2) rfl
          · exact trivial
          with_reducible refine Stab.steps_cons ?_ ?_ ?_
          · exact Stab.owes_load rfl (fun v W hb hv => by subst hv; exact HLD2.out W hb) rfl
          · exact trivial
          with_reducible refine Stab.steps_cons ?_ ?_ ?_
          · exact Stab.owes_bin rfl rfl rfl (fun W => hne _ _ W) rfl
          · exact trivial
          exact Stab.steps_nil
        intro W hbW _
        simp only [Act.put, List.setIfInBounds_toArray, List.set_cons_succ, List.set_cons_zero]
        have HBW := Lib.hid (HW.out.trans (hbW.mono HW.out.size))
        clear hbW
        go_wp2_with fail
        exact bodyPost_ret (v := .bool false) (by simp [results, Tryz.results50, go_sem]) rfl ⟨⟨_, rfl, HQ.out⟩, HBW.out⟩
      | false =>
        have HQ : Hid (∀ i, i < k + 1 → a[i]? = b[i]?) := fun i hi => by
          by_cases e : i = k
          · subst e
            rw [HX.out, HY.out]
            have h3 := HBB.out
            simp [tl_inj] at h3
            obtain ⟨⟨⟨⟨⟨⟨⟨⟨rfl, rfl⟩, rfl⟩, rfl⟩, rfl⟩, rfl⟩, rfl⟩, rfl⟩, rfl⟩ := h3
            rfl
          · exact HALL.out i (by omega)
        go_wp2_with fail
        refine Stab.region 26 [.is (.slice (some ⟨g1, f1, none⟩) n c), .is (.int .i64 (k : Int)), .is (.pointer (some ⟨g1, f1 + k * 9, none⟩)), .is (.agg #[.string md1, .string nm1, .int .i64 kind1, .int .i64 ty1, .int .i64 lx1, .int .i64 ly1, .bool lz1, .int .u8 val1, .bool mt1]), .is (.slice (some ⟨g2, f2, none⟩) n d), .is (.int .i64 (k : Int)), .is (.pointer (some ⟨g2, f2 + k * 9, none⟩)), .is (.agg #[.string md2, .string nm2, .int .i64 kind2, .int .i64 ty2, .int .i64 lx2, .int .i64 ly2, .bool lz2, .int .u8 val2, .bool mt2]), .is (.bool false)] (by kernel_rfl) (by kernel_rfl) rfl rfl ?_ ?_
        · with_reducible refine Stab.steps_cons ?_ ?_ ?_
          · exact Stab.owes_move rfl rfl rfl
          · exact trivial
          with_reducible refine Stab.steps_cons ?_ ?_ ?_
          · exact Stab.owes_move rfl rfl rfl
          · exact trivial
          with_reducible refine Stab.steps_cons ?_ ?_ ?_
          · exact Stab.owes_indexAt rfl rfl rfl (fun W => bat_Import _ _ _ _ _ W hin1 hin2) rfl
          · exact trivial
          with_reducible refine Stab.steps_cons ?_ ?_ ?_
          · exact Stab.owes_load rfl (fun v W hb hv => by subst hv; exact HLD1.out W hb) rfl
          · exact trivial
          with_reducible refine Stab.steps_cons ?_ ?_ ?_
          · exact Stab.owes_move rfl rfl rfl
          · exact trivial
          with_reducible refine Stab.steps_cons ?_ ?_ ?_
          · exact Stab.owes_move rfl rfl rfl
          · exact trivial
          with_reducible refine Stab.steps_cons ?_ ?_ ?_
          · exact Stab.owes_indexAt rfl rfl rfl (fun W => bat_Import _ _ _ _ _ W hin1 hin2) rfl
          · exact trivial
          with_reducible refine Stab.steps_cons ?_ ?_ ?_
          · exact Stab.owes_load rfl (fun v W hb hv => by subst hv; exact HLD2.out W hb) rfl
          · exact trivial
          with_reducible refine Stab.steps_cons ?_ ?_ ?_
          · exact Stab.owes_bin rfl rfl rfl (fun W => hne _ _ W) rfl
          · exact trivial
          exact Stab.steps_nil
        intro W hbW _
        simp only [Act.put, List.setIfInBounds_toArray, List.set_cons_succ, List.set_cons_zero]
        have HBW := Lib.hid (HW.out.trans (hbW.mono HW.out.size))
        clear hbW
        go_wp2_with fail
        go_roundw
        case rel => exact ⟨k + 1, by go_num, hlt, HQ.out, HBW.out⟩
        case measure => simp [intOf]; omega
    · have hkn : k = n := by omega
      subst hkn
      have HQ : Hid (true = true ↔ a = b) := ⟨fun _ => by
        apply List.ext_getElem?
        intro i
        by_cases hi : i < k
        · exact HALL.out i hi
        · rw [List.getElem?_eq_none (by rw [HN.out]; omega), List.getElem?_eq_none (by rw [HM.out]; omega)], fun _ => rfl⟩
      go_wp2_with fail
      exact bodyPost_ret (v := .bool true) (by simp [results, Tryz.results50, go_sem]) rfl ⟨by first | exact ⟨_, rfl, HQ.out⟩ | exact .inr ⟨rfl, by have h := HQ.out; simpa using h⟩, HW.out⟩
theorem peqs_Import {a b : List ImpT} {u v : Value} {w : World} (hbig : a.length ≤ 100000) (ha : RowG.Row elI w u a) (hb : RowG.Row elI w v b) :
    Calls Tryz.prog 50 #[u, v] w fun e w' => (∃ r : Bool, e = .returned (.bool r) ∧ (r = true ↔ a = b)) ∧ Below w.heap.size w w' := by
  obtain ⟨A, c, rfl⟩ := row_len ha
  obtain ⟨B, d, rfl⟩ := row_len hb
  by_cases h : a.length = b.length
  · rw [← h] at hb ⊢
    exact pel_Import rfl h.symm hbig ha hb
  · have HQ : Hid (false = true ↔ a = b) := ⟨fun h => (by cases h), fun e => by
      have := congrArg List.length e
      exact absurd this h⟩
    obtain ⟨n, hn⟩ : ∃ n, a.length = n := ⟨_, rfl⟩
    obtain ⟨m, hm⟩ : ∃ n, b.length = n := ⟨_, rfl⟩
    rw [hn, hm] at h ⊢
    have t1 : ((n : Int) != (m : Int)) = true := by simp; omega
    have t1' : (n != m) = true := by simpa using h
    clear h hn hm ha hb hbig
    go_enter Tryz.func50, Tryz.ntmps50
    go_wp2_with fail
    exact bodyPost_ret (v := .bool false) (by simp [results, Tryz.results50, go_sem]) rfl ⟨⟨_, rfl, HQ.out⟩, Below.refl _ _⟩
end Go.Proofs.YtffegkjlgeblbaaGreatDoor.Mdl
end
