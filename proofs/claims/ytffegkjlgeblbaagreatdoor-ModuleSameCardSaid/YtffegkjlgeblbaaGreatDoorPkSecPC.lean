/- SecPB, SecPC. -/
import Derived.Test.YtffegkjlgeblbaaGreatDoorPkSecMath
import Derived.Deep.CutRange
section
/- The program's reading of one section, walked. -/
namespace Go.Proofs.YtffegkjlgeblbaaGreatDoor.Sec
open Go.RowKit Utf
set_option maxRecDepth 100000
set_option maxHeartbeats 4000000
set_option linter.unusedVariables false
noncomputable def rd1 (b : List Int) (k : Nat) : Sct × Int × Int :=
  if 11 < b.getD k 0 then ((0, []), 0, 3)
  else match Leb.rdl Leb.fitU 32 (b.drop (k + 1)) 0 0 with
    | .short => ((0, []), 0, 2)
    | .form => ((0, []), 0, 3)
    | .ok v m =>
      if b.length - (k + 1 + m / 7) < v then ((0, []), 0, 2)
      else if nf (b.getD k 0, (b.drop (k + 1 + m / 7)).take v) ≠ 0 then ((0, []), 0, nf (b.getD k 0, (b.drop (k + 1 + m / 7)).take v))
      else ((b.getD k 0, (b.drop (k + 1 + m / 7)).take v), ((k + 1 + m / 7 + v : Nat) : Int), 0)
def RdTold (w : World) (R : Sct × Int × Int) (e : Ending) (w' : World) : Prop := (∃ g n c, e = .returned (.tuple #[.agg #[.int .i64 R.1.1, .slice g n c], .int .i64 R.2.1, .int .i64 R.2.2]) ∧ Dat w' w.heap.size (R.1, .slice g n c)) ∧ Below w.heap.size w w'
theorem dat_nil (w : World) (B : Nat) : Dat w B ((0, []), .slice none 0 0) := ⟨⟨rfl, .inl ⟨rfl, rfl⟩⟩, by simp⟩
theorem pread_any {g off n c k : Nat} {b : List Int} {w : World} (hn : b.length = n) (hs : Sl w (.slice (some ⟨g, off, none⟩) n c) b) (hb : ∀ x ∈ b, 0 ≤ x ∧ x < 256) (h1 : n ≤ 65536) (hc : n ≤ c) (hc9 : c ≤ 9223372036854775807) (hk : k < n) :
    Calls Tryz.prog 64 #[.slice (some ⟨g, off, none⟩) n c, .int .i64 (k : Int)] w (RdTold w (rd1 b k)) := by
  have HN := Lib.hid hn
  have HS := Lib.hid hs
  have HBB := Lib.hid hb
  obtain ⟨x, hx⟩ : ∃ x, b.getD k 0 = x := ⟨_, rfl⟩
  have hx1 : 0 ≤ x ∧ x < 256 := by
    rw [← hx, List.getD_eq_getElem?_getD, List.getElem?_eq_getElem (by omega)]
    exact hb _ (List.getElem_mem _)
  obtain ⟨hx0, hx6⟩ := hx1
  have HW0 := Lib.hid ((Below.refl w.heap.size w).alloc (Nat.le_refl _) (.cells #[.int .i64 0, .slice none 0 0] 54))
  have hgl : g < w.heap.size := by
    obtain ⟨A', c', e1, _, _, h4⟩ := id hs
    obtain ⟨g', off', e, hB, _⟩ := h4 (fun e => by rw [e] at hn; simp at hn; omega)
    injection e1 with e1 _ _
    rw [e] at e1
    simp only [Option.some.injEq, Addr.mk.injEq] at e1
    have := e1.1
    simp only at hB
    omega
  have hw0 : IntKind.i64.wrap x = x := IntWalk.i64_in _ (by omega)
  have hw1 : IntKind.i64.wrap ((k : Int) + 1) = (k : Int) + 1 := IntWalk.i64_in _ (by omega)
  have j1 : (k : Int) < (n : Int) := by omega
  have j0 : (0 : Int) ≤ (k : Int) := by omega
  obtain ⟨W0, hW0⟩ : ∃ W, w.alloc (.cells #[.int .i64 0, .slice none 0 0] 54) = W := ⟨_, rfl⟩
  have HHC : Hid (W0.heap[w.heap.size]? = some (.cells #[.int .i64 0, .slice none 0 0] 54)) := Lib.hid (by rw [← hW0]; exact heap_new w _)
  have HSZ : Hid (W0.heap.size = w.heap.size + 1) := Lib.hid (by rw [← hW0]; exact size_new1 w _)
  have c1 : W0.cell? ⟨g, off + k, none⟩ = some (.int .u8 x) := by rw [← hx, ← hW0]; exact sl_cell (hs.keep HW0.out) (by omega)
  rw [hW0] at HW0
  clear hs hb hn
  by_cases hx11 : 11 < x
  · have HV : Hid (rd1 b k = ((0, []), 0, 3)) := by show _ = _; unfold rd1; rw [hx, if_pos hx11]
    rw [HV.out]
    clear hx HV
    have z0 := (cells_at HHC.out 0).1
    have y0 := (cells_at HHC.out 0).2
    have z1 := (cells_at HHC.out 1).1
    have y1 := (cells_at HHC.out 1).2
    go_enter Tryz.func64, Tryz.ntmps64
    go_wp2_with fail
    refine bodyPost_ret (v := .tuple #[.agg #[.int .i64 0, .slice none 0 0], .int .i64 0, .int .i64 3]) (by simp [results, Tryz.results64, go_sem, z0, z1]) rfl ⟨⟨_, _, _, rfl, dat_nil _ _⟩, ?_⟩
    repeat (first | exact HW0.out | refine Below.setCell ?_ (by simp) _)
  · have hx11' : (11 < x) = False := by simp; omega
    obtain ⟨r, hr⟩ : ∃ r, Leb.rdl Leb.fitU 32 (b.drop (k + 1)) 0 0 = r := ⟨_, rfl⟩
    have HC : Hid (Calls Tryz.prog 111 #[.slice (some ⟨g, off, none⟩) n c, .int .i64 ((k : Int) + 1), .int .i64 32] (w.alloc (.cells #[.int .i64 0, .slice none 0 0] 54)) fun e w' => e = .returned (.tuple #[.int .u64 (Leb.uV r), .int .i64 (Leb.uP (k + 1) r), .int .i64 (Leb.uE r)]) ∧ Below (w.alloc (.cells #[.int .i64 0, .slice none 0 0] 54)).heap.size (w.alloc (.cells #[.int .i64 0, .slice none 0 0] 54)) w') := by
      have h := Leb.ReadU_is (some ⟨g, off, none⟩) c 32 (k + 1) b (w.alloc (.cells #[.int .i64 0, .slice none 0 0] 54)) (sl_byt (HS.out.keep ((Below.refl w.heap.size w).alloc (Nat.le_refl _) _))) (by rw [HN.out]; omega) (fun y hy => by have := HBB.out y hy; omega) (by omega) (by omega) (by rw [HN.out]; omega)
      rw [hr, HN.out] at h
      exact h
    rw [hW0] at HC
    cases r with
    | short =>
      have HV : Hid (rd1 b k = ((0, []), 0, 2)) := by show _ = _; unfold rd1; rw [hx, if_neg hx11, hr]
      rw [HV.out]
      clear hx HV hr
      go_enter Tryz.func64, Tryz.ntmps64
      go_wp2_with fail
      refine HC.out.mono ?_
      rintro en w1 ⟨rfl, hb1⟩
      have hc : w1.heap[w.heap.size]? = some (.cells #[.int .i64 0, .slice none 0 0] 54) := (hb1.block _ (by rw [HSZ.out]; omega)).trans HHC.out
      have z0 := (cells_at hc 0).1
      have y0 := (cells_at hc 0).2
      have z1 := (cells_at hc 1).1
      have y1 := (cells_at hc 1).2
      have HB1 : Hid (Below w.heap.size w w1) := Lib.hid (HW0.out.trans (hb1.mono HW0.out.size))
      clear hb1 hc
      simp only [Leb.uV, Leb.uP, Leb.uE]
      go_wp2_with fail
      refine bodyPost_ret (v := .tuple #[.agg #[.int .i64 0, .slice none 0 0], .int .i64 0, .int .i64 2]) (by simp [results, Tryz.results64, go_sem, z0, z1]) rfl ⟨⟨_, _, _, rfl, dat_nil _ _⟩, ?_⟩
      repeat (first | exact HB1.out | refine Below.setCell ?_ (by simp) _)
    | form =>
      have HV : Hid (rd1 b k = ((0, []), 0, 3)) := by show _ = _; unfold rd1; rw [hx, if_neg hx11, hr]
      rw [HV.out]
      clear hx HV hr
      go_enter Tryz.func64, Tryz.ntmps64
      go_wp2_with fail
      refine HC.out.mono ?_
      rintro en w1 ⟨rfl, hb1⟩
      have hc : w1.heap[w.heap.size]? = some (.cells #[.int .i64 0, .slice none 0 0] 54) := (hb1.block _ (by rw [HSZ.out]; omega)).trans HHC.out
      have z0 := (cells_at hc 0).1
      have y0 := (cells_at hc 0).2
      have z1 := (cells_at hc 1).1
      have y1 := (cells_at hc 1).2
      have HB1 : Hid (Below w.heap.size w w1) := Lib.hid (HW0.out.trans (hb1.mono HW0.out.size))
      clear hb1 hc
      simp only [Leb.uV, Leb.uP, Leb.uE]
      go_wp2_with fail
      refine bodyPost_ret (v := .tuple #[.agg #[.int .i64 0, .slice none 0 0], .int .i64 0, .int .i64 3]) (by simp [results, Tryz.results64, go_sem, z0, z1]) rfl ⟨⟨_, _, _, rfl, dat_nil _ _⟩, ?_⟩
      repeat (first | exact HB1.out | refine Below.setCell ?_ (by simp) _)
    | ok v m =>
      have hp0 := rdl_le (k := k) (by rw [HN.out]; exact hk) hr
      rw [HN.out] at hp0
      have HQ : Hid (rd1 b k = if n - (k + 1 + m / 7) < v then ((0, []), 0, 2)
      else if nf (x, (b.drop (k + 1 + m / 7)).take v) ≠ 0 then ((0, []), 0, nf (x, (b.drop (k + 1 + m / 7)).take v))
      else ((x, (b.drop (k + 1 + m / 7)).take v), ((k + 1 + m / 7 + v : Nat) : Int), 0)) := by
        show _ = _
        unfold rd1
        rw [hx, if_neg hx11, hr, HN.out]
      replace HC : Hid (Calls Tryz.prog 111 #[.slice (some ⟨g, off, none⟩) n c, .int .i64 ((k : Int) + 1), .int .i64 32] W0 fun e w' => e = .returned (.tuple #[.int .u64 (v : Int), .int .i64 ((k + 1 + m / 7 : Nat) : Int), .int .i64 0]) ∧ Below W0.heap.size W0 w') := HC.out
      clear hr hx
      revert HC HQ hp0
      generalize k + 1 + m / 7 = p
      intro hp0 HQ HC
      have hu1 : IntKind.u64.wrap ((n : Int) - (p : Int)) = (n : Int) - (p : Int) := IntWalk.u64_in _ (by omega)
      have hi1 : IntKind.i64.wrap ((n : Int) - (p : Int)) = (n : Int) - (p : Int) := IntWalk.i64_in _ (by omega)
      by_cases hv : n - p < v
      · rw [HQ.out, if_pos hv]
        have hvt : decide ((n : Int) - (p : Int) < (v : Int)) = true := decide_eq_true (by omega)
        clear HQ
        go_enter Tryz.func64, Tryz.ntmps64
        go_wp2_with fail
        refine HC.out.mono ?_
        rintro en w1 ⟨rfl, hb1⟩
        have hc : w1.heap[w.heap.size]? = some (.cells #[.int .i64 0, .slice none 0 0] 54) := (hb1.block _ (by rw [HSZ.out]; omega)).trans HHC.out
        have z0 := (cells_at hc 0).1
        have y0 := (cells_at hc 0).2
        have z1 := (cells_at hc 1).1
        have y1 := (cells_at hc 1).2
        have HB1 : Hid (Below w.heap.size w w1) := Lib.hid (HW0.out.trans (hb1.mono HW0.out.size))
        clear hb1 hc
        go_wp2_with fail
        refine bodyPost_ret (v := .tuple #[.agg #[.int .i64 0, .slice none 0 0], .int .i64 0, .int .i64 2]) (by simp [results, Tryz.results64, go_sem, z0, z1]) rfl ⟨⟨_, _, _, rfl, dat_nil _ _⟩, ?_⟩
        repeat (first | exact HB1.out | refine Below.setCell ?_ (by simp) _)
      · rw [if_neg hv] at HQ
        have hvt : decide ((n : Int) - (p : Int) < (v : Int)) = false := decide_eq_false (by omega)
        obtain ⟨D, hD⟩ : ∃ D, (b.drop p).take v = D := ⟨_, rfl⟩
        have hDl : D.length = v := by rw [← hD, List.length_take, List.length_drop, HN.out]; omega
        have hDb : ∀ y ∈ D, 0 ≤ y ∧ y < 256 := fun y hy => HBB.out y (by rw [← hD] at hy; exact List.mem_of_mem_drop (List.mem_of_mem_take hy))
        have HDL := Lib.hid hDl
        have HDB := Lib.hid hDb
        have HDA : Hid (Leb.Byt w w.heap.size (some ⟨g, off + p, none⟩) D) := Lib.hid (by rw [← hD]; exact drop_byt HS.out)
        rw [hD] at HQ
        clear hDl hDb hD
        have hi2 : IntKind.i64.wrap (v : Int) = (v : Int) := IntWalk.i64_in _ (by omega)
        have hi3 : IntKind.i64.wrap ((p : Int) + (v : Int)) = (p : Int) + (v : Int) := IntWalk.i64_in _ (by omega)
        have hvp : p + v ≤ n := by omega
        have HD0 : Hid (v = 0 → D = []) := Lib.hid fun e => List.length_eq_zero_iff.1 (HDL.out.trans e)
        obtain ⟨F, hF⟩ : ∃ F, nf (x, D) = F := ⟨_, rfl⟩
        have HF := Lib.hid hF
        rw [hF] at HQ
        clear hF
        rcases Classical.em (c = p) with hcp | hcp
        · subst hcp
          go_enter Tryz.func64, Tryz.ntmps64
          go_wp2_with fail
          refine HC.out.mono ?_
          rintro en w1 ⟨rfl, hb1⟩
          have HHC1 : Hid (w1.heap[w.heap.size]? = some (.cells #[.int .i64 0, .slice none 0 0] 54)) := Lib.hid ((hb1.block _ (by rw [HSZ.out]; omega)).trans HHC.out)
          have HB1 : Hid (Below w.heap.size w w1) := Lib.hid (HW0.out.trans (hb1.mono HW0.out.size))
          have HS1 : Hid (w.heap.size < w1.heap.size) := Lib.hid (by have := hb1.size; rw [HSZ.out] at this; omega)
          clear hb1
          go_wp2_with fail
          refine (pclone_any (D := D) (by have := HDL.out; omega) (by rw [HD0.out (by omega)]; exact Leb.byt_nil _ _ _) (by omega)).mono ?_
          rintro en w2 ⟨⟨g2, n2, c2, rfl, ho2, hn2⟩, hb2⟩
          have HHC2 : Hid (w2.heap[w.heap.size]? = some (.cells #[.int .i64 0, .slice none 0 0] 54)) := Lib.hid ((hb2.block _ HS1.out).trans HHC1.out)
          have HB2 : Hid (Below w.heap.size w w2) := Lib.hid (HB1.out.trans (hb2.mono HB1.out.size))
          have HD2 : Hid (Dat w2 w1.heap.size ((x, D), .slice g2 n2 c2)) := Lib.hid ⟨ho2, HDB.out⟩
          have HN2 : Hid (D.length = n2) := Lib.hid hn2.symm
          have HS2 : Hid (w.heap.size < w2.heap.size) := Lib.hid (by have := hb2.size; have := HS1.out; omega)
          clear ho2 hn2 hb2
          have HA2 := Lib.hid ((Below.refl w2.heap.size w2).alloc (Nat.le_refl _) (.cells #[.int .i64 x, .slice g2 n2 c2] 54))
          go_wp2_with fail
          refine (pnf_any (x := x) (D := D) HN2.out (HD2.out.ok.1.keep HA2.out) HDB.out (by have := HDL.out; have := HN2.out; omega)).mono ?_
          rintro en w4 ⟨rfl, hb4⟩
          rw [HF.out]
          have hc4 : w4.heap[w.heap.size]? = some (.cells #[.int .i64 0, .slice none 0 0] 54) := (hb4.block _ (by have := HS2.out; rw [size_new1]; omega)).trans ((HA2.out.block _ HS2.out).trans HHC2.out)
          have hd4 : w4.heap[w2.heap.size]? = some (.cells #[.int .i64 x, .slice g2 n2 c2] 54) := (hb4.block _ (by rw [size_new1]; omega)).trans (heap_new w2 _)
          have z0 := (cells_at hc4 0).1
          have y0 := (cells_at hc4 0).2
          have z1 := (cells_at hc4 1).1
          have y1 := (cells_at hc4 1).2
          have q0 := (cells_at hd4 0).1
          have q1 := (cells_at hd4 1).1
          have HB4w2 : Hid (Below w2.heap.size w2 w4) := Lib.hid (HA2.out.trans (hb4.mono HA2.out.size))
          have HB4 : Hid (Below w.heap.size w w4) := Lib.hid (HB2.out.trans (HB4w2.out.mono HB2.out.size))
          have HD4 : Hid (Dat w4 w1.heap.size ((x, D), .slice g2 n2 c2)) := Lib.hid ⟨own_keep HD2.out.1 HB4w2.out, HDB.out⟩
          clear hb4 hc4 hd4
          by_cases hF0 : F = 0
          · subst hF0
            have HV : Hid (rd1 b k = ((x, D), ((c + v : Nat) : Int), 0)) := Lib.hid (by rw [HQ.out, if_neg (by simp)])
            clear HQ
            go_wp2_with fail
            refine bodyPost_ret (v := .tuple #[.agg #[.int .i64 x, .slice g2 n2 c2], .int .i64 ((c : Int) + (v : Int)), .int .i64 0]) (by simp [results, Tryz.results64, go_sem, z0, z1]) rfl ⟨⟨g2, n2, c2, by rw [HV.out]; rfl, ?_⟩, ?_⟩
            · rw [HV.out]
              refine ⟨own_stay (own_low HD4.out.1 HB1.out.size) fun k' hk' => ?_, HDB.out⟩
              have hkk := (World.ownsRow.lt HD4.out.1 k' hk').1
              have := HS1.out
              repeat rw [Below.heap_setCell _ _ _ _ (by simp only; omega)]
            · repeat (first | exact HB4.out | refine Below.setCell ?_ (by simp) _)
          · have hF1 : (F != 0) = true := by simpa using hF0
            have HV : Hid (rd1 b k = ((0, []), 0, F)) := Lib.hid (by rw [HQ.out, if_pos hF0])
            clear HQ
            go_wp2_with fail
            refine bodyPost_ret (v := .tuple #[.agg #[.int .i64 0, .slice none 0 0], .int .i64 0, .int .i64 F]) (by simp [results, Tryz.results64, go_sem, z0, z1]) rfl ⟨⟨_, _, _, by rw [HV.out], by rw [HV.out]; exact dat_nil _ _⟩, ?_⟩
            repeat (first | exact HB4.out | refine Below.setCell ?_ (by simp) _)
        · go_enter Tryz.func64, Tryz.ntmps64
          go_wp2_with fail
          refine HC.out.mono ?_
          rintro en w1 ⟨rfl, hb1⟩
          have HHC1 : Hid (w1.heap[w.heap.size]? = some (.cells #[.int .i64 0, .slice none 0 0] 54)) := Lib.hid ((hb1.block _ (by rw [HSZ.out]; omega)).trans HHC.out)
          have HB1 : Hid (Below w.heap.size w w1) := Lib.hid (HW0.out.trans (hb1.mono HW0.out.size))
          have HS1 : Hid (w.heap.size < w1.heap.size) := Lib.hid (by have := hb1.size; rw [HSZ.out] at this; omega)
          clear hb1
          go_wp2_with fail
          refine (pclone_any (D := D) (by have := HDL.out; omega) ((HDA.out.keep HB1.out).mono HB1.out.size) (by omega)).mono ?_
          rintro en w2 ⟨⟨g2, n2, c2, rfl, ho2, hn2⟩, hb2⟩
          have HHC2 : Hid (w2.heap[w.heap.size]? = some (.cells #[.int .i64 0, .slice none 0 0] 54)) := Lib.hid ((hb2.block _ HS1.out).trans HHC1.out)
          have HB2 : Hid (Below w.heap.size w w2) := Lib.hid (HB1.out.trans (hb2.mono HB1.out.size))
          have HD2 : Hid (Dat w2 w1.heap.size ((x, D), .slice g2 n2 c2)) := Lib.hid ⟨ho2, HDB.out⟩
          have HN2 : Hid (D.length = n2) := Lib.hid hn2.symm
          have HS2 : Hid (w.heap.size < w2.heap.size) := Lib.hid (by have := hb2.size; have := HS1.out; omega)
          clear ho2 hn2 hb2
          have HA2 := Lib.hid ((Below.refl w2.heap.size w2).alloc (Nat.le_refl _) (.cells #[.int .i64 x, .slice g2 n2 c2] 54))
          go_wp2_with fail
          refine (pnf_any (x := x) (D := D) HN2.out (HD2.out.ok.1.keep HA2.out) HDB.out (by have := HDL.out; have := HN2.out; omega)).mono ?_
          rintro en w4 ⟨rfl, hb4⟩
          rw [HF.out]
          have hc4 : w4.heap[w.heap.size]? = some (.cells #[.int .i64 0, .slice none 0 0] 54) := (hb4.block _ (by have := HS2.out; rw [size_new1]; omega)).trans ((HA2.out.block _ HS2.out).trans HHC2.out)
          have hd4 : w4.heap[w2.heap.size]? = some (.cells #[.int .i64 x, .slice g2 n2 c2] 54) := (hb4.block _ (by rw [size_new1]; omega)).trans (heap_new w2 _)
          have z0 := (cells_at hc4 0).1
          have y0 := (cells_at hc4 0).2
          have z1 := (cells_at hc4 1).1
          have y1 := (cells_at hc4 1).2
          have q0 := (cells_at hd4 0).1
          have q1 := (cells_at hd4 1).1
          have HB4w2 : Hid (Below w2.heap.size w2 w4) := Lib.hid (HA2.out.trans (hb4.mono HA2.out.size))
          have HB4 : Hid (Below w.heap.size w w4) := Lib.hid (HB2.out.trans (HB4w2.out.mono HB2.out.size))
          have HD4 : Hid (Dat w4 w1.heap.size ((x, D), .slice g2 n2 c2)) := Lib.hid ⟨own_keep HD2.out.1 HB4w2.out, HDB.out⟩
          clear hb4 hc4 hd4
          by_cases hF0 : F = 0
          · subst hF0
            have HV : Hid (rd1 b k = ((x, D), ((p + v : Nat) : Int), 0)) := Lib.hid (by rw [HQ.out, if_neg (by simp)])
            clear HQ
            go_wp2_with fail
            refine bodyPost_ret (v := .tuple #[.agg #[.int .i64 x, .slice g2 n2 c2], .int .i64 ((p : Int) + (v : Int)), .int .i64 0]) (by simp [results, Tryz.results64, go_sem, z0, z1]) rfl ⟨⟨g2, n2, c2, by rw [HV.out]; rfl, ?_⟩, ?_⟩
            · rw [HV.out]
              refine ⟨own_stay (own_low HD4.out.1 HB1.out.size) fun k' hk' => ?_, HDB.out⟩
              have hkk := (World.ownsRow.lt HD4.out.1 k' hk').1
              have := HS1.out
              repeat rw [Below.heap_setCell _ _ _ _ (by simp only; omega)]
            · repeat (first | exact HB4.out | refine Below.setCell ?_ (by simp) _)
          · have hF1 : (F != 0) = true := by simpa using hF0
            have HV : Hid (rd1 b k = ((0, []), 0, F)) := Lib.hid (by rw [HQ.out, if_pos hF0])
            clear HQ
            go_wp2_with fail
            refine bodyPost_ret (v := .tuple #[.agg #[.int .i64 0, .slice none 0 0], .int .i64 0, .int .i64 F]) (by simp [results, Tryz.results64, go_sem, z0, z1]) rfl ⟨⟨_, _, _, by rw [HV.out], by rw [HV.out]; exact dat_nil _ _⟩, ?_⟩
            repeat (first | exact HB4.out | refine Below.setCell ?_ (by simp) _)
end Go.Proofs.YtffegkjlgeblbaaGreatDoor.Sec
end

section
/- Splitting, by the program: walked. -/
namespace Go.Proofs.YtffegkjlgeblbaaGreatDoor.Sec
open Go.RowKit Utf
set_option maxRecDepth 100000
set_option maxHeartbeats 8000000
set_option linter.unusedVariables false
theorem rd1_cases {b : List Int} {k : Nat} (hb : ∀ x ∈ b, 0 ≤ x ∧ x < 256) (hk : k < b.length) :
    (∃ E : Int, E ≠ 0 ∧ rd1 b k = ((0, []), 0, E) ∧ ∀ f last out, 0 ≤ last → spl b (f + 1) k last out = ([], E)) ∨
    ∃ (x : Int) (D : List Int) (p : Nat), rd1 b k = ((x, D), (p : Int), 0) ∧ k + 1 ≤ p ∧ p ≤ b.length ∧ 0 ≤ x ∧ x ≤ 11 ∧ ∀ f last out, 0 ≤ last → spl b (f + 1) k last out = if ris x last = true then spl b f p (max last x) (out ++ [(x, D)]) else ([], 3) := by
  obtain ⟨x, hx⟩ : ∃ x, b.getD k 0 = x := ⟨_, rfl⟩
  have hx0 : 0 ≤ x := by
    rw [← hx, List.getD_eq_getElem?_getD, List.getElem?_eq_getElem hk]
    exact (hb _ (List.getElem_mem _)).1
  by_cases h11 : 11 < x
  · refine .inl ⟨3, by decide, by unfold rd1; rw [hx, if_pos h11], fun f last out _ => ?_⟩
    rw [spl_more hk hx, if_pos h11]
  · cases hr : Leb.rdl Leb.fitU 32 (b.drop (k + 1)) 0 0 with
    | short =>
      refine .inl ⟨2, by decide, by unfold rd1; rw [hx, if_neg h11, hr], fun f last out _ => ?_⟩
      rw [spl_more hk hx, if_neg h11, hr]
    | form =>
      refine .inl ⟨3, by decide, by unfold rd1; rw [hx, if_neg h11, hr], fun f last out _ => ?_⟩
      rw [spl_more hk hx, if_neg h11, hr]
    | ok v m =>
      have hle := rdl_le hk hr
      have hrd : rd1 b k = if b.length - (k + 1 + m / 7) < v then ((0, []), 0, 2) else if nf (x, (b.drop (k + 1 + m / 7)).take v) ≠ 0 then ((0, []), 0, nf (x, (b.drop (k + 1 + m / 7)).take v)) else ((x, (b.drop (k + 1 + m / 7)).take v), ((k + 1 + m / 7 + v : Nat) : Int), 0) := by
        unfold rd1
        rw [hx, if_neg h11, hr]
      have hsp : ∀ f last out, spl b (f + 1) k last out = if b.length - (k + 1 + m / 7) < v then ([], 2)
        else if x = 0 then
          (if (nm ((b.drop (k + 1 + m / 7)).take v) 0).2.2 ≠ 0 then ([], (nm ((b.drop (k + 1 + m / 7)).take v) 0).2.2)
           else spl b f (k + 1 + m / 7 + v) last (out ++ [(0, (b.drop (k + 1 + m / 7)).take v)]))
        else if x ≤ last then ([], 3)
        else spl b f (k + 1 + m / 7 + v) x (out ++ [(x, (b.drop (k + 1 + m / 7)).take v)]) := by
        intro f last out
        rw [spl_more hk hx, if_neg h11, hr]
      clear hr
      revert hrd hsp
      generalize hp : k + 1 + m / 7 = p at hle ⊢
      generalize (b.drop p).take v = D
      intro hrd hsp
      by_cases hv : b.length - p < v
      · exact .inl ⟨2, by decide, by rw [hrd, if_pos hv], fun f last out _ => by rw [hsp, if_pos hv]⟩
      · rw [if_neg hv] at hrd
        by_cases hz : x = 0
        · have hnf : nf (x, D) = (nm D 0).2.2 := by unfold nf; rw [if_pos hz]
          by_cases hn : (nm D 0).2.2 ≠ 0
          · refine .inl ⟨_, hn, by rw [hrd, hnf, if_pos hn], fun f last out _ => ?_⟩
            rw [hsp, if_neg hv, if_pos hz, if_pos hn]
          · refine .inr ⟨x, D, p + v, by rw [hrd, hnf, if_neg hn], by omega, by omega, hx0, by omega, fun f last out h0 => ?_⟩
            rw [hsp, if_neg hv, if_pos hz, if_neg hn, if_pos (by unfold ris; rw [hz]; rfl), hz, show max last 0 = last from by omega]
        · have hnf : nf (x, D) = 0 := by unfold nf; rw [if_neg hz]
          refine .inr ⟨x, D, p + v, by rw [hrd, hnf, if_neg (by simp)], by omega, by omega, hx0, by omega, fun f last out h0 => ?_⟩
          rw [hsp, if_neg hv, if_neg hz]
          have hzz : (x == 0) = false := by simpa using hz
          by_cases hl : x ≤ last
          · rw [if_pos hl, if_neg (by unfold ris; rw [hzz]; simp; omega)]
          · rw [if_neg hl, if_pos (by unfold ris; rw [hzz]; simp; omega), show max last x = x from by omega]
theorem split_hf {b : List Int} (h : hf b ≠ 0) : split7 b = ([], hf b) := by
  unfold hf at h ⊢
  unfold split7
  split
  · rfl
  · split
    · rfl
    · split
      · rfl
      · rename_i h1 h2 h3
        rw [if_neg h1, if_neg h2, if_neg h3] at h
        exact absurd rfl h
theorem hf_zero {b : List Int} (h : hf b = 0) : b.length ≤ 65536 ∧ 8 ≤ b.length ∧ split7 b = spl b 65537 8 0 [] := by
  unfold hf at h
  unfold split7
  split at h
  · cases h
  · split at h
    · cases h
    · split at h
      · cases h
      · rename_i h1 h2 h3
        refine ⟨by omega, by omega, ?_⟩
        rw [if_neg h1, if_neg h2, if_neg h3]
theorem psplit_no {A : Option Addr} {n c : Nat} {b : List Int} {w : World} (hn : b.length = n) (hs : Sl w (.slice A n c) b) (hb : ∀ x ∈ b, 0 ≤ x ∧ x < 256) (h : hf b ≠ 0) : Calls Tryz.prog 28 #[.slice A n c] w (STold (split7 b) w) := by
  have HH := Lib.hid (phead_any hn hs hb)
  rw [split_hf h]
  obtain ⟨E, hE⟩ : ∃ E, hf b = E := ⟨_, rfl⟩
  rw [hE] at h HH ⊢
  have hE1 : (E != 0) = true := by simpa using h
  clear hs hb h hE
  go_enter Tryz.func28, Tryz.ntmps28
  go_wp2_with fail
  refine HH.out.mono ?_
  rintro en w1 ⟨rfl, hb1⟩
  have HB1 := Lib.hid hb1
  clear hb1
  go_wp2_with fail
  exact bodyPost_ret (v := .tuple #[.slice none 0 0, .int .i64 E]) (by simp [results, Tryz.results28, go_sem]) rfl ⟨_, [], rfl, ScRow.nil _, rfl, HB1.out⟩
theorem psplit_go {g off n c : Nat} {b : List Int} {w : World} (hn : b.length = n) (hs : Sl w (.slice (some ⟨g, off, none⟩) n c) b) (hb : ∀ x ∈ b, 0 ≤ x ∧ x < 256) (hc : n ≤ c) (hc9 : c ≤ 9223372036854775807) (hh : hf b = 0) :
    Calls Tryz.prog 28 #[.slice (some ⟨g, off, none⟩) n c] w (STold (split7 b) w) := by
  have HN := Lib.hid hn
  obtain ⟨h1, h2, h3⟩ := hf_zero hh
  rw [hn] at h1 h2
  obtain ⟨R, hR⟩ : ∃ R, spl b 65537 8 0 [] = R := ⟨_, rfl⟩
  rw [h3, hR]
  have HRR := Lib.hid hR
  have HS := Lib.hid hs
  have HBB := Lib.hid hb
  have HH := Lib.hid (phead_any hn hs hb)
  rw [hh] at HH
  have hw8 : IntKind.i64.wrap ((n : Int) - 8) = (n : Int) - 8 := IntWalk.i64_in _ (by omega)
  clear hn hs hb hR h3 hh
  go_enter Tryz.func28, Tryz.ntmps28
  go_wp2_with fail
  refine HH.out.mono ?_
  rintro en w1 ⟨rfl, hb1⟩
  have HBX := Lib.hid hb1
  clear hb1
  go_wp2_with fail
  go_loopw [5, 6, 7, 19] (fun o at' la i' wr => ∃ (f k i : Nat) (last : Int) (L : List (Sct × Value)), la = .int .i64 last ∧ at' = .int .i64 (k : Int) ∧ i' = .int .i64 (i : Int) ∧ 8 + i ≤ k ∧ SMid 54 w b n R wr f k last o L) (fun _ _ _ i' _ => n - (intOf i').toNat)
  case atStart => exact ⟨65537, 8, 0, 0, [], rfl, rfl, by go_num, by omega, ⟨HRR.out, by omega, h2, by decide, by decide, ownS_nil _ _ _, by simp, by simp, HBX.out⟩⟩
  case round =>
    obtain ⟨f, k, i, last, L, rfl, rfl, rfl, hik, hm⟩ := hrel
    have HM := Lib.hid hm
    have hk0 : k ≤ n := hm.kle
    have hf0 : n < f + k := hm.f
    clear hm
    have HBL := Lib.hid HM.out.below
    by_cases hil : i < n - 8
    · have t1 : decide ((i : Int) < (n : Int) - 8) = true := decide_eq_true (by omega)
      by_cases hlt : k < n
      · have t2 : ((k : Int) == (n : Int)) = false := by simp; omega
        have t2' : (k == n) = false := by simp; omega
        obtain ⟨f, rfl⟩ : ∃ f', f = f' + 1 := ⟨f - 1, by omega⟩
        have HR : Hid (Calls Tryz.prog 64 #[.slice (some ⟨g, off, none⟩) n c, .int .i64 (k : Int)] wr (RdTold wr (rd1 b k))) := Lib.hid (pread_any HN.out (HS.out.keep HBL.out) HBB.out h1 hc hc9 hlt)
        rcases rd1_cases HBB.out (k := k) (by rw [HN.out]; exact hlt) with ⟨E, hE, e1, e2⟩ | ⟨x, D, p, e1, p1, p2, x0, x11, e2⟩
        · rw [e1] at HR
          have HV : Hid (R = ([], E)) := Lib.hid (by rw [← HM.out.r]; exact e2 _ _ _ HM.out.lo)
          have hE1 : (E != 0) = true := by simpa using hE
          clear e1 e2 hE
          go_wp2_with fail
          refine HR.out.mono ?_
          rintro en w1 ⟨⟨g2, n2, c2, rfl, _⟩, hb1⟩
          have HB1 := Lib.hid (HBL.out.trans (hb1.mono HBL.out.size))
          clear hb1
          go_wp2_with fail
          exact bodyPost_ret (v := .tuple #[.slice none 0 0, .int .i64 E]) (by simp [results, Tryz.results28, go_sem]) rfl ⟨_, [], by rw [HV.out], ScRow.nil _, by rw [HV.out]; rfl, by
            repeat (first | exact HB1.out | refine Below.setCell ?_ (by have := HB1.out.size; simp; omega) _ | refine Below.alloc ?_ HB1.out.size _)⟩
        · rw [e1] at HR
          have hp2 : p ≤ n := by rw [← HN.out]; exact p2
          have HQ : Hid (R = if ris x last = true then spl b f p (max last x) (scL L ++ [(x, D)]) else ([], 3)) := Lib.hid (by rw [← HM.out.r]; exact e2 _ _ _ HM.out.lo)
          have hlo : 0 ≤ last := HM.out.lo
          have hhi : last ≤ 11 := HM.out.hi
          obtain ⟨mx, hmx⟩ : ∃ mx, max last x = mx := ⟨_, rfl⟩
          have hm0 : 0 ≤ mx := by omega
          have hm11 : mx ≤ 11 := by omega
          rw [hmx] at HQ
          have hmi : (if last < x then x else last) = mx := by rw [← hmx]; split <;> omega
          clear e1 e2 p2
          go_wp2_with fail
          refine HR.out.mono ?_
          rintro en w1 ⟨⟨g2, n2, c2, rfl, hd⟩, hb1⟩
          have HBr1 := Lib.hid hb1
          have HB1 := Lib.hid (HBL.out.trans (hb1.mono HBL.out.size))
          have HD1 : Hid (Dat w1 w.heap.size ((x, D), .slice g2 n2 c2)) := Lib.hid ⟨own_low hd.1 HBL.out.size, hd.2⟩
          clear hd hb1
          have HA1 := Lib.hid ((Below.refl w1.heap.size w1).alloc (Nat.le_refl _) (.cells #[.int .i64 x, .slice g2 n2 c2] 54))
          have HB2 := Lib.hid (HB1.out.trans (HA1.out.mono HB1.out.size))
          have HBr2 := Lib.hid (HBr1.out.trans (HA1.out.mono HBr1.out.size))
          have HRW : Hid (OwnS 54 (w1.alloc (.cells #[.int .i64 x, .slice g2 n2 c2] 54)) w.heap.size u5 L) := Lib.hid (own_keep HM.out.row HBr2.out)
          have HD2 : Hid (Dat (w1.alloc (.cells #[.int .i64 x, .slice g2 n2 c2] 54)) w.heap.size ((x, D), .slice g2 n2 c2)) := Lib.hid ⟨own_keep HD1.out.1 HA1.out, HD1.out.2⟩
          have HLL : Hid (L.length ≤ k) := Lib.hid HM.out.len
          go_wp2_with fail
          refine (prises_any x last _).mono ?_
          rintro en w2 ⟨rfl, rfl⟩
          cases hrs : ris x last with
          | false =>
            have HV : Hid (R = ([], 3)) := Lib.hid (by rw [HQ.out, hrs]; rfl)
            go_wp2_with fail
            exact bodyPost_ret (v := .tuple #[.slice none 0 0, .int .i64 3]) (by simp [results, Tryz.results28, go_sem]) rfl ⟨_, [], by rw [HV.out], ScRow.nil _, by rw [HV.out]; rfl, HB2.out⟩
          | true =>
            rw [hrs, if_pos rfl] at HQ
            have HNE : Hid (some w1.heap.size ≠ u5.ownBlock) := Lib.hid fun e => by
              have h1 := (World.ownsRow.lt HM.out.row _ e.symm).2
              have h2 := HBr1.out.size
              omega
            go_wp2_with (at_builtin; refine stop_ ?_)
            refine Lib.hid ?_
            refine wp_oneS 54 50 Tryz.underlying50 psect_info _ rfl (.tmp 40) (.tmp 42) rfl w.heap.size u5 L ((x, D), .slice g2 n2 c2) ⟨_, _, _, rfl⟩ rfl HRW.out (by rw [size_new1]; rfl) ?_ ?_ ?_
            focus (have := HLL.out; omega)
            focus (exact HB2.out.size)
            intro v3 w3 ho3 hb3 hk3
            have hd3 : w3.heap[w1.heap.size]? = some (.cells #[.int .i64 x, .slice g2 n2 c2] 54) := (hk3 _ (by rw [size_new1]; omega) HNE.out).trans (heap_new w1 _)
            have q0 : w3.cell? ⟨w1.heap.size, 0, none⟩ = some (.int .i64 x) := (cells_at hd3 0).1
            have HO3 := Lib.hid ho3
            have HO4 : Hid (OwnS 54 w3.drew w.heap.size v3 (L ++ [((x, D), .slice g2 n2 c2)])) := Lib.hid (own_keep HO3.out (drewB w3))
            have HB4 : Hid (Below w.heap.size (w1.alloc (.cells #[.int .i64 x, .slice g2 n2 c2] 54)) w3.drew) := Lib.hid (hb3.trans ⟨rfl, rfl, rfl, Nat.le_refl _, fun _ _ => rfl⟩)
            have HK4 : Hid (∀ k, k < (w1.alloc (.cells #[.int .i64 x, .slice g2 n2 c2] 54)).heap.size → some k ≠ u5.ownBlock → w3.drew.heap[k]? = (w1.alloc (.cells #[.int .i64 x, .slice g2 n2 c2] 54)).heap[k]?) := Lib.hid hk3
            have hwi : IntKind.i64.wrap ((i : Int) + 1) = (i : Int) + 1 := IntWalk.i64_in _ (by omega)
            clear ho3 hb3 hk3 hd3
            have HMI := Lib.hid hmi
            clear hmi
            go_wp2_with fail
            go_region
            go_wp2_with fail
            go_roundw
            case rel => exact ⟨f, p, i + 1, mx, L ++ [((x, D), .slice g2 n2 c2)], by rw [HMI.out], by go_num, by go_num, by omega, SMid.nextD (by decide) HM.out HRW.out HD2.out HBr2.out HB2.out HO4.out HB4.out HK4.out (by rw [scL_one]; exact HQ.out.symm) (by omega) hp2 hm0 hm11 p1⟩
            case measure => simp [intOf]; omega
      · have hkn : k = n := by omega
        subst hkn
        have HV : Hid (R = (scL L, 0)) := Lib.hid (by
          rw [← HM.out.r]
          obtain ⟨f, rfl⟩ : ∃ f', f = f' + 1 := ⟨f - 1, by omega⟩
          rw [spl, if_pos (by rw [HN.out]; exact Nat.le_refl _)])
        have t2 : ((k : Int) == (k : Int)) = true := by simp
        go_wp2_with fail
        exact bodyPost_ret (v := .tuple #[u5, .int .i64 0]) (by simp [results, Tryz.results28, go_sem]) rfl ⟨u5, L, by rw [HV.out], OwnS.row HM.out.row (fun q hq => (HM.out.dat q hq).ok), by rw [HV.out], HBL.out⟩
    · have hkn : k = n := by omega
      subst hkn
      have t1 : decide ((i : Int) < (k : Int) - 8) = false := decide_eq_false (by omega)
      have HV : Hid (R = (scL L, 0)) := Lib.hid (by
        rw [← HM.out.r]
        obtain ⟨f, rfl⟩ : ∃ f', f = f' + 1 := ⟨f - 1, by omega⟩
        rw [spl, if_pos (by rw [HN.out]; exact Nat.le_refl _)])
      go_wp2_with fail
      exact bodyPost_ret (v := .tuple #[u5, .int .i64 0]) (by simp [results, Tryz.results28, go_sem]) rfl ⟨u5, L, by rw [HV.out], OwnS.row HM.out.row (fun q hq => (HM.out.dat q hq).ok), by rw [HV.out], HBL.out⟩
theorem psplit_any {v : Value} {b : List Int} {w : World} (hs : Sl w v b) (hb : ∀ x ∈ b, 0 ≤ x ∧ x < 256) : Calls Tryz.prog 28 #[v] w (STold (split7 b) w) := by
  obtain ⟨A, c, e1, h2, h3, h4⟩ := id hs
  subst e1
  by_cases hh : hf b = 0
  · obtain ⟨g, off, rfl, _⟩ := h4 (fun e => by have := (hf_zero hh).2.1; rw [e] at this; simp at this)
    exact psplit_go rfl hs hb h2 h3 hh
  · exact psplit_no rfl hs hb hh
end Go.Proofs.YtffegkjlgeblbaaGreatDoor.Sec
end
