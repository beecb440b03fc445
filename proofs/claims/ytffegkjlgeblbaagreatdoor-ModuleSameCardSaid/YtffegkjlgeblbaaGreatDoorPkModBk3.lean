/- ModWLData, ModPDec, ModBk3. -/
import Derived.Test.YtffegkjlgeblbaaGreatDoorPkModWLI
import Derived.Test.YtffegkjlgeblbaaGreatDoorPkModWLPair
import Derived.Test.YtffegkjlgeblbaaGreatDoorPkModWA4
import Derived.Test.YtffegkjlgeblbaaGreatDoorPkModWLImport
section
/- The program's lists of Data, laid: walked. -/
namespace Go.Proofs.YtffegkjlgeblbaaGreatDoor.Mdl
open Go.RowKit Ints Typ Ins
set_option maxRecDepth 100000
set_option maxHeartbeats 4000000
set_option linter.unusedVariables false
theorem wlist_Data (okf : DatT → Bool) (xf : DatT → List Int) (m : Int) (K : Nat) {w0 w : World} {v : Value} {L : List DatT} {g : Nat} {b : List Int} {bad : Bool} (hw : WS w g b bad) (hr : RowG.Row elD w0 v L) (hb : Below w0.heap.size w0 w) (hg : w0.heap.size ≤ g) (hL : L.length ≤ 100000)
    (hrun : ∀ args W, (callFunc K args).run Tryz.prog W = .ok (.enter K args) W)
    (hone : ∀ W b' bad' p, p ∈ L → WS W g b' bad' → Below w0.heap.size w0 W → Calls Tryz.prog K #[.pointer (some ⟨g, 0, none⟩), (fun p : DatT => .agg #[.int .i64 p.1.1.op, .int .i64 p.1.1.A, .int .i64 p.1.1.B, .int .u64 p.1.1.K, p.1.2, p.2.2]) p] W (WTold g b' bad' (okf p) (xf p) W)) :
    Calls Tryz.prog 208 #[.pointer (some ⟨g, 0, none⟩), v, .int .i64 m, .func (.func K) #[.pointer (some ⟨g, 0, none⟩)] #[]] w (WTold g b bad (decide ((L.length : Int) ≤ m) && L.all okf) (Leb.uB L.length ++ L.flatMap xf) w) := by
  obtain ⟨P, c, rfl⟩ := row_len hr
  obtain ⟨n, hn⟩ : ∃ n, L.length = n := ⟨_, rfl⟩
  have HN := Lib.hid hn
  rw [hn] at hr hL ⊢
  have HR := Lib.hid hr
  have HBW := Lib.hid hb
  have HG := Lib.hid hg
  have HONE := Lib.hid hone
  obtain ⟨hd, hhd⟩ : ∃ r, decide ((n : Int) ≤ m) = r := ⟨_, rfl⟩
  have HWN := Lib.hid (wneed hd hw)
  have HD := Lib.hid (hw.set1 (bad || !hd))
  obtain ⟨W1, hW1⟩ : ∃ W, w.setCell ⟨g, 1, none⟩ (.bool (bad || !hd)) = W := ⟨_, rfl⟩
  have HFR : Hid (WFr g w W1) := Lib.hid (by rw [← hW1]; exact (WFr.refl g w).setCell _ _)
  rw [hW1] at HD HWN
  rw [hhd]
  obtain ⟨TO, hTO⟩ : ∃ r, (hd && L.all okf) = r := ⟨_, rfl⟩
  obtain ⟨TX, hTX⟩ : ∃ r, Leb.uB n ++ L.flatMap xf = r := ⟨_, rfl⟩
  have HTO := Lib.hid hTO
  have HTX := Lib.hid hTX
  rw [hTO, hTX]
  clear hW1 hw hr hb hg hone hn hTO hTX
  go_enter Tryz.func208, Tryz.ntmps208
  go_wp2_with fail
  refine HWN.out.mono ?_
  rintro en w1 ⟨rfl, hw1⟩
  obtain rfl : W1 = w1 := hw1.symm
  go_wp2_with fail
  refine (wnum (n : Int) (by omega) HD.out).mono ?_
  rintro en w2 ⟨b2, bad2, rfl, hs2, hp2, hf2⟩
  have HS2 := Lib.hid hs2
  have HP2 : Hid (Puts b bad b2 bad2 hd (Leb.uB n)) := Lib.hid (Puts.after (by rw [okU_nat hL, Int.toNat_natCast] at hp2; exact hp2))
  have HF2 := Lib.hid (HFR.out.trans hf2)
  clear hs2 hp2 hf2 hhd
  go_wp2_with fail
  go_loopw [22] (fun i' wr => ∃ (i : Nat) (b' : List Int) (bad' : Bool), i' = .int .i64 (i : Int) ∧ i ≤ n ∧ WS wr g b' bad' ∧ Puts b bad b' bad' (hd && (L.take i).all okf) (Leb.uB n ++ (L.take i).flatMap xf) ∧ WFr g w wr) (fun i' _ => n - (intOf i').toNat)
  case atStart => exact ⟨0, b2, bad2, by go_num, by omega, HS2.out, by simpa using HP2.out, HF2.out⟩
  case round =>
    obtain ⟨i, b', bad', rfl, hi, hs, hp, hf⟩ := hrel
    have HS := Lib.hid hs
    have HP := Lib.hid hp
    have HF := Lib.hid hf
    clear hs hp hf HS2 HP2 HF2
    by_cases hlt : i < n
    · obtain ⟨p, hp⟩ : ∃ p, L[i]? = some p := ⟨_, List.getElem?_eq_getElem (by rw [HN.out]; exact hlt)⟩
      have HBR : Hid (Below w0.heap.size w0 wr) := Lib.hid (HBW.out.trans (HF.out.below.mono HG.out))
      obtain ⟨g1, off, rfl, hg1, hA, hok⟩ := (HR.out.keep HBR.out).at_ hp
      rw [show (elD.s) = 6 from rfl] at hA
      have q0 := hA 0 (.int .i64 p.1.1.op) rfl
      have q1 := hA 1 (.int .i64 p.1.1.A) rfl
      have q2 := hA 2 (.int .i64 p.1.1.B) rfl
      have q3 := hA 3 (.int .u64 p.1.1.K) rfl
      have q4 := hA 4 p.1.2 rfl
      have q5 := hA 5 p.2.2 rfl
      rw [Nat.add_zero] at q0
      have HPM := Lib.hid (List.mem_of_getElem? hp)
      have HAN := Lib.hid (all_next okf hp)
      have HFN := Lib.hid (flat_next xf hp)
      have i1 : (0 : Int) ≤ (i : Int) := by omega
      have i2 : (i : Int) < (n : Int) := by omega
      have hw1 : IntKind.i64.wrap ((i : Int) + 1) = (i : Int) + 1 := IntWalk.i64_in _ (by omega)
      clear hA hp hg1
      obtain ⟨⟨⟨op, A, B, K', Ls⟩, c4⟩, ⟨x1, c5'⟩⟩ := p
      obtain ⟨⟨⟨A0, k0, e0, _⟩, _⟩, ⟨⟨A1, k1, e1, _⟩, _⟩⟩ := hok
      simp only at e0 e1
      subst e0 e1
      obtain ⟨W2, hW2⟩ : ∃ W, wr.alloc (.cells #[.int .i64 op, .int .i64 A, .int .i64 B, .int .u64 K', .slice A0 Ls.length k0, .slice A1 x1.length k1] 93) = W := ⟨_, rfl⟩
      have HA2 : Hid (Below wr.heap.size wr W2) := Lib.hid (by rw [← hW2]; exact (Below.refl _ _).alloc (Nat.le_refl _) _)
      have HS2 : Hid (WS W2 g b' bad') := Lib.hid (HS.out.keep HA2.out)
      have HF2 : Hid (WFr g w W2) := Lib.hid (HF.out.trans (WFr.of_below HA2.out HS.out.lt))
      have HO2 := Lib.hid (HONE.out W2 b' bad' _ HPM.out HS2.out (HBR.out.trans (HA2.out.mono HBR.out.size)))
      rw [← hW2] at HS2 HF2 HO2
      obtain ⟨⟨Pb, cb, h1, _⟩, _⟩ := id HS.out
      have d1 := Lib.cell?_alloc_some (.cells #[.int .i64 op, .int .i64 A, .int .i64 B, .int .u64 K', .slice A0 Ls.length k0, .slice A1 x1.length k1] 93) (Sec.cells_at h1 1).1
      clear h1 hW2
      cases bad' with
      | true =>
        have HE : Hid (WTold g b bad TO TX w (.returned (.tuple #[])) (wr.alloc (.cells #[.int .i64 op, .int .i64 A, .int .i64 B, .int .u64 K', .slice A0 Ls.length k0, .slice A1 x1.length k1] 93))) := Lib.hid ⟨b', true, rfl, HS2.out, by
          rw [← HTO.out, ← HTX.out, all_cut okf L i, flat_cut xf L i, ← Bool.and_assoc, ← List.append_assoc]
          exact Puts.stop HP.out, HF2.out⟩
        go_wp2_with fail
        exact bodyPost_ret (P := Tryz.prog) (fn := Tryz.f208) (v := .tuple #[]) (by simp [results, Tryz.results208, go_sem]) rfl HE.out
      | false =>
        go_wp2_with fail
        refine HO2.out.mono ?_
        rintro en w3 ⟨b3, bad3, rfl, hs3, hp3, hf3⟩
        have HS3 := Lib.hid hs3
        have HP3 : Hid (Puts b bad b3 bad3 (hd && (L.take (i + 1)).all okf) (Leb.uB n ++ (L.take (i + 1)).flatMap xf)) := Lib.hid (by
          rw [HAN.out, HFN.out, ← Bool.and_assoc, ← List.append_assoc]
          exact HP.out.trans hp3)
        have HF3 := Lib.hid (HF2.out.trans hf3)
        clear hs3 hp3 hf3
        go_wp2_with fail
        go_roundw
        case rel => exact ⟨i + 1, b3, bad3, by go_num, hlt, HS3.out, HP3.out, HF3.out⟩
        case measure => simp [intOf]; omega
    · have hin : i = n := by omega
      subst hin
      have HE : Hid (WTold g b bad TO TX w (.returned (.tuple #[])) wr) := Lib.hid ⟨b', bad', rfl, HS.out, by
        have := HP.out
        rw [List.take_of_length_le (by rw [HN.out]; exact Nat.le_refl _)] at this
        rw [← HTO.out, ← HTX.out]
        exact this, HF.out⟩
      go_wp2_with fail
      exact bodyPost_end (v := .tuple #[]) (by simp [results, Tryz.results208, go_sem]) rfl HE.out
theorem wsome_Data (okf : DatT → Bool) (xf : DatT → List Int) (m : Int) (K : Nat) {w0 w : World} {v : Value} {L : List DatT} {g : Nat} {b : List Int} {bad : Bool} (hw : WS w g b bad) (hr : RowG.Row elD w0 v L) (hb : Below w0.heap.size w0 w) (hg : w0.heap.size ≤ g) (hL : L.length ≤ 100000) (h0 : 0 < L.length)
    (hrun : ∀ args W, (callFunc K args).run Tryz.prog W = .ok (.enter K args) W)
    (hone : ∀ W b' bad' p, p ∈ L → WS W g b' bad' → Below w0.heap.size w0 W → Calls Tryz.prog K #[.pointer (some ⟨g, 0, none⟩), (fun p : DatT => .agg #[.int .i64 p.1.1.op, .int .i64 p.1.1.A, .int .i64 p.1.1.B, .int .u64 p.1.1.K, p.1.2, p.2.2]) p] W (WTold g b' bad' (okf p) (xf p) W)) :
    Calls Tryz.prog 162 #[.pointer (some ⟨g, 0, none⟩), v, .int .i64 m, .func (.func K) #[.pointer (some ⟨g, 0, none⟩)] #[]] w (WTold g b bad (decide ((L.length : Int) ≤ m) && L.all okf) (Leb.uB L.length ++ L.flatMap xf) w) := by
  have HC := Lib.hid (wlist_Data okf xf m K hw hr hb hg hL hrun hone)
  obtain ⟨P, c, rfl⟩ := row_len hr
  obtain ⟨TO, hTO⟩ : ∃ r, (decide ((L.length : Int) ≤ m) && L.all okf) = r := ⟨_, rfl⟩
  obtain ⟨TX, hTX⟩ : ∃ r, Leb.uB L.length ++ L.flatMap xf = r := ⟨_, rfl⟩
  rw [hTO, hTX] at HC ⊢
  clear hTO hTX
  obtain ⟨n, hn⟩ : ∃ n, L.length = n := ⟨_, rfl⟩
  rw [hn] at HC h0 ⊢
  have t1 : decide ((0 : Int) < (n : Int)) = true := decide_eq_true (by omega)
  have t2 : decide (0 < n) = true := decide_eq_true h0
  clear hw hr hb hg hL hone hn h0
  go_enter Tryz.func162, Tryz.ntmps162
  go_wp2_with fail
  refine HC.out.mono ?_
  rintro en w3 ⟨b3, bad3, rfl, hs3, hp3, hf3⟩
  have HE : Hid (WTold g b bad TO TX w (.returned (.tuple #[])) w3) := Lib.hid ⟨b3, bad3, rfl, hs3, hp3, hf3⟩
  clear hs3 hp3 hf3
  go_wp2_with fail
  exact bodyPost_end (v := .tuple #[]) (by simp [results, Tryz.results162, go_sem]) rfl HE.out
end Go.Proofs.YtffegkjlgeblbaaGreatDoor.Mdl
end

section
/- The program's Decode: walked, given its sections' readers. -/
namespace Go.Proofs.YtffegkjlgeblbaaGreatDoor.Mdl
open Go.RowKit Ints Typ Ins
set_option maxRecDepth 100000
set_option maxHeartbeats 2000000
set_option linter.unusedVariables false
def DTold (q : PMod × Int) (w : World) (en : Ending) (w' : World) : Prop := ∃ u m, en = .returned (.tuple #[u, .int .i64 q.2]) ∧ ModAt w' u m ∧ plainM m = q.1 ∧ Below w.heap.size w w'
theorem zMod_at (w : World) : ModAt w (.agg #[.slice none 0 0, .slice none 0 0, .slice none 0 0, .slice none 0 0, .slice none 0 0, .slice none 0 0, .slice none 0 0, .int .i64 0, .slice none 0 0, .slice none 0 0, .slice none 0 0]) ⟨[], [], [], [], [], [], [], 0, [], [], []⟩ :=
  ⟨_, _, _, _, _, _, _, _, _, _, rfl, RowG.Row.nil _ _, RowG.Row.nil _ _, ⟨none, 0, rfl, Nat.le_refl _, by omega, fun h => absurd rfl h⟩, RowG.Row.nil _ _, RowG.Row.nil _ _, RowG.Row.nil _ _, RowG.Row.nil _ _, by unfold w64; decide, RowG.Row.nil _ _, RowG.Row.nil _ _, RowG.Row.nil _ _⟩
theorem pdecM_no (b : List Int) (h : (pdecM b).2 ≠ 0) : (pdecM b).1 = noMod 0 := by
  unfold pdecM at h ⊢
  split
  · rfl
  · rename_i h0
    rw [if_neg h0] at h
    unfold decEnd at h ⊢
    split
    · have key : ∀ (l : List Sec.Sct) (m : PMod), (pdecsM l m).2 ≠ 0 → (pdecsM l m).1 = noMod 0 := by
        intro l
        induction l with
        | nil => intro m h; exact absurd rfl h
        | cons s r ih =>
          intro m h
          by_cases h1 : s.1 = 0
          · rw [pdecs_skip h1] at h ⊢; exact ih m h
          · by_cases h2 : (pone s m).2 = 0
            · rw [pdecs_ok h1 h2] at h ⊢; exact ih _ h
            · rw [pdecs_err h1 h2]
      rename_i h1
      exact key _ _ h1
    · rename_i h1
      rw [if_neg h1] at h
      split
      · rfl
      · rename_i h2
        rw [if_neg h2] at h
        exact absurd (Decidable.not_not.1 h1) h
theorem pdecode_of {v : Value} {b : List Int} {w : World} (hs : Utf.Sl w v b) (hb : ∀ x ∈ b, 0 ≤ x ∧ x < 256) (hD : ∀ s ∈ (Sec.split7 b).1, s.2.length ≤ 1000000) (hn : (Sec.split7 b).1.length ≤ 1000000)
    (hsec : ∀ s ∈ (Sec.split7 b).1, s.1 ≠ 0 → SecOK s.1 s.2) :
    Calls Tryz.prog 12 #[v] w (DTold (pdecM b) w) := by
  have HRD := Lib.hid fun W (h : Below w.heap.size w W) => pread_of (hs.keep h) hb hD hn hsec
  have HNO := Lib.hid (pdecM_no b)
  obtain ⟨A, c, rfl, _⟩ := id hs
  clear hs hb hD hn hsec
  generalize pdecM b = q at *
  have HB1 := Lib.hid (((Below.refl w.heap.size w).alloc (Nat.le_refl _) (.cells #[.slice none 0 0, .slice none 0 0, .slice none 0 0, .slice none 0 0, .slice none 0 0, .slice none 0 0, .slice none 0 0, .int .i64 0, .slice none 0 0, .slice none 0 0, .slice none 0 0] 34)).alloc (by simp) (.cells #[.int .i64 0] 35))
  have hmf : ∀ (fn : Fn) (first cap : Array Value) (w : World), (Instr.makeFunc fn first cap).run Tryz.prog w = .ok (.func fn first cap) w := fun _ _ _ _ => rfl
  go_enter_defers Tryz.func12, Tryz.ntmps12
  go_wp2_with fail
  refine (HRD.out _ HB1.out).mono ?_
  rintro en w1 ⟨h | h, hb1⟩
  · obtain ⟨he, ⟨u, m, rfl, hm, hp⟩⟩ := h
    obtain ⟨vt, vi, vf, va, vm, vg, vx, ve, vc, vd, e, r1, r2, r3, r4, r5, r6, r7, r8, r9, r10, r11⟩ := hm.now
    subst e
    obtain ⟨Pt, cst, rfl⟩ := row_len r1
    obtain ⟨Pi, csi, rfl⟩ := row_len r2
    obtain ⟨Pf, csf, rfl, hjunk⟩ := id r3
    clear hjunk
    obtain ⟨Pa, csa, rfl⟩ := row_len r4
    obtain ⟨Pm, csm, rfl⟩ := row_len r5
    obtain ⟨Pg, csg, rfl⟩ := row_len r6
    obtain ⟨Px, csx, rfl⟩ := row_len r7
    obtain ⟨Pe, cse, rfl⟩ := row_len r9
    obtain ⟨Pc, csc, rfl⟩ := row_len r10
    obtain ⟨Pd, csd, rfl⟩ := row_len r11
    obtain ⟨nt, hnt⟩ : ∃ k, m.types.length = k := ⟨_, rfl⟩
    obtain ⟨ni, hni⟩ : ∃ k, m.imps.length = k := ⟨_, rfl⟩
    obtain ⟨nf, hnf⟩ : ∃ k, m.funcs.length = k := ⟨_, rfl⟩
    obtain ⟨na, hna⟩ : ∃ k, m.tabs.length = k := ⟨_, rfl⟩
    obtain ⟨nm, hnm⟩ : ∃ k, m.mems.length = k := ⟨_, rfl⟩
    obtain ⟨ng, hng⟩ : ∃ k, m.globs.length = k := ⟨_, rfl⟩
    obtain ⟨nx, hnx⟩ : ∃ k, m.exps.length = k := ⟨_, rfl⟩
    obtain ⟨ne, hne⟩ : ∃ k, m.elems.length = k := ⟨_, rfl⟩
    obtain ⟨nc, hnc⟩ : ∃ k, m.codes.length = k := ⟨_, rfl⟩
    obtain ⟨nd, hnd⟩ : ∃ k, m.datas.length = k := ⟨_, rfl⟩
    rw [hnt, hni, hnf, hna, hnm, hng, hnx, hne, hnc, hnd] at hm ⊢
    obtain ⟨st, hst⟩ : ∃ s, m.start = s := ⟨_, rfl⟩
    rw [hst] at hm ⊢
    have HM := Lib.hid hm
    have HP := Lib.hid hp
    have HE := Lib.hid he
    have HRW : Hid (w1.heap[w.heap.size]? = some (.cells #[.slice none 0 0, .slice none 0 0, .slice none 0 0, .slice none 0 0, .slice none 0 0, .slice none 0 0, .slice none 0 0, .int .i64 0, .slice none 0 0, .slice none 0 0, .slice none 0 0] 34 (0, 0))) := Lib.hid (by rw [hb1.block w.heap.size (by simp <;> omega)]; rw [Below.heap_alloc _ _ _ (by simp)]; exact Sec.heap_new w _)
    have HER : Hid (w1.heap[w.heap.size + 1]? = some (.cells #[.int .i64 0] 35 (0, 0))) := Lib.hid (by rw [hb1.block (w.heap.size + 1) (by simp)]; have := Sec.heap_new (w.alloc (.cells #[.slice none 0 0, .slice none 0 0, .slice none 0 0, .slice none 0 0, .slice none 0 0, .slice none 0 0, .slice none 0 0, .int .i64 0, .slice none 0 0, .slice none 0 0, .slice none 0 0] 34)) (.cells #[.int .i64 0] 35); rw [Sec.size_new1] at this; exact this)
    have HST := Lib.hid (run_stM (c0 := .slice Pt nt cst) (c1 := .slice Pi ni csi) (c2 := .slice Pf nf csf) (c3 := .slice Pa na csa) (c4 := .slice Pm nm csm) (c5 := .slice Pg ng csg) (c6 := .slice Px nx csx) (c7 := .int .i64 st) (c8 := .slice Pe ne cse) (c9 := .slice Pc nc csc) (c10 := .slice Pd nd csd) HRW.out rfl (by intro v hv; simp only [List.mem_cons, List.not_mem_nil, or_false] at hv; rcases hv with rfl | rfl | rfl | rfl | rfl | rfl | rfl | rfl | rfl | rfl | rfl <;> rfl))
    obtain ⟨W', hW'⟩ : ∃ W', w1.setRow w.heap.size #[.slice Pt nt cst, .slice Pi ni csi, .slice Pf nf csf, .slice Pa na csa, .slice Pm nm csm, .slice Pg ng csg, .slice Px nx csx, .int .i64 st, .slice Pe ne cse, .slice Pc nc csc, .slice Pd nd csd] = W' := ⟨_, rfl⟩
    have HWH : Hid (W'.heap[w.heap.size]? = some (.cells #[.slice Pt nt cst, .slice Pi ni csi, .slice Pf nf csf, .slice Pa na csa, .slice Pm nm csm, .slice Pg ng csg, .slice Px nx csx, .int .i64 st, .slice Pe ne cse, .slice Pc nc csc, .slice Pd nd csd] 34 (0, 0))) := Lib.hid (by rw [← hW']; exact setRow_heap w1 w.heap.size _ _ _ _ HRW.out)
    have HWE : Hid (W'.heap[w.heap.size + 1]? = some (.cells #[.int .i64 0] 35 (0, 0))) := Lib.hid (by rw [← hW', (agp_row (B := w.heap.size + 1) w1 (Nat.lt_succ_self _) _).block _ (Nat.le_refl _) (Array.getElem?_eq_some_iff.1 HER.out).1]; exact HER.out)
    have HWM : Hid (HiP (w.heap.size + 2) W' (fun W => ModAt W (.agg #[.slice Pt nt cst, .slice Pi ni csi, .slice Pf nf csf, .slice Pa na csa, .slice Pm nm csm, .slice Pg ng csg, .slice Px nx csx, .int .i64 st, .slice Pe ne cse, .slice Pc nc csc, .slice Pd nd csd]) m)) := Lib.hid ((by simpa using HM.out : HiP (w.heap.size + 1 + 1) w1 (fun W => ModAt W (.agg #[.slice Pt nt cst, .slice Pi ni csi, .slice Pf nf csf, .slice Pa na csa, .slice Pm nm csm, .slice Pg ng csg, .slice Px nx csx, .int .i64 st, .slice Pe ne cse, .slice Pc nc csc, .slice Pd nd csd]) m)).step (by rw [← hW']; exact agp_row w1 (by omega) _))
    have HWM2 : Hid (∀ Wf, Wf = (W'.setCell ⟨w.heap.size + 1, 0, none⟩ (.int .i64 0)).setCell ⟨w.heap.size + 1, 0, none⟩ (.int .i64 0) → ModAt Wf (.agg #[.slice Pt nt cst, .slice Pi ni csi, .slice Pf nf csf, .slice Pa na csa, .slice Pm nm csm, .slice Pg ng csg, .slice Px nx csx, .int .i64 st, .slice Pe ne cse, .slice Pc nc csc, .slice Pd nd csd]) m) := Lib.hid fun Wf h => by
      subst h
      exact HWM.out _ (agp_set (agp_set (AgP.refl _ _) (by omega) _ _) (by omega) _ _)
    have HWB : Hid (Below w.heap.size w W') := Lib.hid ((HB1.out.trans (hb1.mono HB1.out.size)).trans (by rw [← hW']; exact below_row w1 (Nat.le_refl _) _))
    rw [hW'] at HST
    have e0 := (Sec.cells_at HWE.out 0).1
    have e1 := (Sec.cells_at HWE.out 0).2
    clear r1 r2 r3 r4 r5 r6 r7 r8 r9 r10 r11 hnt hni hnf hna hnm hng hnx hne hnc hnd hst hm hp he hb1 hW'
    rename_i hK
    refine hK _ _ ?_
    refine wpList_st rfl _ _ _ rfl HST.out ?_
    go_wp2_with fail
    refine leaves_cons (f := 31) (args := #[.pointer (some ⟨w.heap.size + 1, 0, none⟩)]) (by simp) (by simp [go_sem]) ?_
    refine (dec1_ret (w.heap.size + 1) 0 _ (World.cell?_setCell_same _ _ _ e0) (by rw [World.frozen?_setCell]; exact e1)).mono ?_
    rintro en u' w2 ⟨rfl, rfl, rfl⟩
    obtain ⟨Wf, hWf⟩ : ∃ W, (W'.setCell ⟨w.heap.size + 1, 0, none⟩ (.int .i64 0)).setCell ⟨w.heap.size + 1, 0, none⟩ (.int .i64 0) = W := ⟨_, rfl⟩
    have HF : Wf.heap[w.heap.size]? = some (.cells #[.slice Pt nt cst, .slice Pi ni csi, .slice Pf nf csf, .slice Pa na csa, .slice Pm nm csm, .slice Pg ng csg, .slice Px nx csx, .int .i64 st, .slice Pe ne cse, .slice Pc nc csc, .slice Pd nd csd] 34 (0, 0)) := by rw [← hWf, Below.heap_setCell _ _ _ _ (by simp), Below.heap_setCell _ _ _ _ (by simp)]; exact HWH.out
    have z0 := (Sec.cells_at HF 0).1
    have z1 := (Sec.cells_at HF 1).1
    have z2 := (Sec.cells_at HF 2).1
    have z3 := (Sec.cells_at HF 3).1
    have z4 := (Sec.cells_at HF 4).1
    have z5 := (Sec.cells_at HF 5).1
    have z6 := (Sec.cells_at HF 6).1
    have z7 := (Sec.cells_at HF 7).1
    have z8 := (Sec.cells_at HF 8).1
    have z9 := (Sec.cells_at HF 9).1
    have z10 := (Sec.cells_at HF 10).1
    have e9 : Wf.cell? ⟨w.heap.size + 1, 0, none⟩ = some (.int .i64 0) := by rw [← hWf]; exact World.cell?_setCell_same _ _ _ (World.cell?_setCell_same _ _ _ e0)
    have HBF : Hid (Below w.heap.size w Wf) := Lib.hid (by rw [← hWf]; exact below_set (below_set HWB.out (Nat.le_succ _) _) (Nat.le_succ _) _)
    rw [hWf]
    simp [Leaves, settle, results, Tryz.results12, go_sem, z0, z1, z2, z3, z4, z5, z6, z7, z8, z9, z10, e9]
    exact ⟨_, m, by rw [HE.out], HWM2.out Wf hWf.symm, HP.out, HBF.out⟩
  · obtain ⟨he, rfl⟩ := h
    refine leaves_cons (f := 31) (args := #[.pointer (some ⟨w.heap.size + 1, 0, none⟩)]) (by simp) (by simp [go_sem]) ?_
    have HRW : Hid (w1.heap[w.heap.size]? = some (.cells #[.slice none 0 0, .slice none 0 0, .slice none 0 0, .slice none 0 0, .slice none 0 0, .slice none 0 0, .slice none 0 0, .int .i64 0, .slice none 0 0, .slice none 0 0, .slice none 0 0] 34 (0, 0))) := Lib.hid (by rw [hb1.block w.heap.size (by simp <;> omega)]; rw [Below.heap_alloc _ _ _ (by simp)]; exact Sec.heap_new w _)
    have HER : Hid (w1.heap[w.heap.size + 1]? = some (.cells #[.int .i64 0] 35 (0, 0))) := Lib.hid (by rw [hb1.block (w.heap.size + 1) (by simp)]; have := Sec.heap_new (w.alloc (.cells #[.slice none 0 0, .slice none 0 0, .slice none 0 0, .slice none 0 0, .slice none 0 0, .slice none 0 0, .slice none 0 0, .int .i64 0, .slice none 0 0, .slice none 0 0, .slice none 0 0] 34)) (.cells #[.int .i64 0] 35); rw [Sec.size_new1] at this; exact this)
    refine (dec1_flt (w.heap.size + 1) 0 q.2 [] w1 (Sec.cells_at HER.out 0).1 (Sec.cells_at HER.out 0).2).mono ?_
    rintro en u' w2 ⟨rfl, rfl, w3, hb3, rfl⟩
    have HRW3 : Hid (w3.heap[w.heap.size]? = some (.cells #[.slice none 0 0, .slice none 0 0, .slice none 0 0, .slice none 0 0, .slice none 0 0, .slice none 0 0, .slice none 0 0, .int .i64 0, .slice none 0 0, .slice none 0 0, .slice none 0 0] 34 (0, 0))) := Lib.hid (by rw [hb3.block _ (Array.getElem?_eq_some_iff.1 HRW.out).1]; exact HRW.out)
    obtain ⟨Wf, hWf⟩ : ∃ W, w3.setCell ⟨w.heap.size + 1, 0, none⟩ (.int .i64 q.2) = W := ⟨_, rfl⟩
    have HF : Wf.heap[w.heap.size]? = some (.cells #[.slice none 0 0, .slice none 0 0, .slice none 0 0, .slice none 0 0, .slice none 0 0, .slice none 0 0, .slice none 0 0, .int .i64 0, .slice none 0 0, .slice none 0 0, .slice none 0 0] 34 (0, 0)) := by rw [← hWf, Below.heap_setCell _ _ _ _ (by simp)]; exact HRW3.out
    have z0 := (Sec.cells_at HF 0).1
    have z1 := (Sec.cells_at HF 1).1
    have z2 := (Sec.cells_at HF 2).1
    have z3 := (Sec.cells_at HF 3).1
    have z4 := (Sec.cells_at HF 4).1
    have z5 := (Sec.cells_at HF 5).1
    have z6 := (Sec.cells_at HF 6).1
    have z7 := (Sec.cells_at HF 7).1
    have z8 := (Sec.cells_at HF 8).1
    have z9 := (Sec.cells_at HF 9).1
    have z10 := (Sec.cells_at HF 10).1
    have e9 : Wf.cell? ⟨w.heap.size + 1, 0, none⟩ = some (.int .i64 q.2) := by rw [← hWf]; exact World.cell?_setCell_same _ _ _ ((hb3.cell (p := ⟨w.heap.size + 1, 0, none⟩) (Array.getElem?_eq_some_iff.1 HER.out).1).trans (Sec.cells_at HER.out 0).1)
    have HBF : Hid (Below w.heap.size w Wf) := Lib.hid (by rw [← hWf]; exact below_set ((HB1.out.trans (hb1.mono HB1.out.size)).trans (hb3.mono (HB1.out.trans (hb1.mono HB1.out.size)).size)) (Nat.le_succ _) _)
    rw [hWf]
    simp [Leaves, settle, results, Tryz.results12, go_sem, z0, z1, z2, z3, z4, z5, z6, z7, z8, z9, z10, e9]
    exact ⟨_, _, rfl, zMod_at Wf, by rw [HNO.out he]; rfl, HBF.out⟩
end Go.Proofs.YtffegkjlgeblbaaGreatDoor.Mdl
end

section
/- What the writer lays the reader reads: a module, plain. -/
namespace Go.Proofs.YtffegkjlgeblbaaGreatDoor.Mdl
open Go.RowKit Ints Typ Ins
set_option maxRecDepth 100000
set_option maxHeartbeats 1000000
set_option linter.unusedVariables false
def someB {α : Type} (L : List α) (f : α → List Int) : List Int := if L = [] then [] else Leb.uB L.length ++ L.flatMap f
theorem someB_ne {α : Type} {L : List α} {f : α → List Int} (h : someB L f ≠ []) : someB L f = Leb.uB L.length ++ L.flatMap f := by
  unfold someB at h ⊢
  split at h
  · exact absurd rfl h
  · rename_i h1
    rw [if_neg h1]
theorem someB_nil {α : Type} {L : List α} {f : α → List Int} (h : someB L f = []) : L = [] := by
  unfold someB at h
  split at h
  · assumption
  · have := congrArg List.length h
    rw [List.length_append] at this
    have h2 := uB_ne L.length
    exact absurd (List.length_eq_zero_iff.1 (by simp at this; rw [this.1]; rfl)) h2
def tabB (p : LimT) : List Int := 112 :: limB p.1 p.2.1 p.2.2
def lmB (p : LimT) : List Int := limB p.1 p.2.1 p.2.2
def ftB (p : List Int × List Int) : List Int := fnB p.1 p.2
def okT (p : List Int × List Int) : Bool := sane p.1 p.2
def okLm (p : LimT) : Bool := okL p.1 p.2.1 p.2.2
noncomputable def secF (m : PMod) : Nat → List Int
  | 1 => someB m.types ftB
  | 2 => someB m.imps impB
  | 3 => someB m.funcs numB
  | 4 => someB m.tabs tabB
  | 5 => someB m.mems lmB
  | 6 => someB m.globs glbB
  | 7 => someB m.exps expB
  | 8 => if m.start = -1 then [] else numB m.start
  | 9 => someB m.elems elmB
  | 10 => someB m.codes codB
  | 11 => someB m.datas datB
  | _ => []
def okL8 {α : Type} (L : List α) (m : Int) (f : α → Bool) : Bool := decide ((L.length : Int) ≤ m) && L.all f
noncomputable def secO (m : PMod) : Nat → Bool
  | 1 => okL8 m.types 64 okT
  | 2 => okL8 m.imps 64 okI
  | 3 => okL8 m.funcs 128 okU
  | 4 => okL8 m.tabs 32 okLm
  | 5 => okL8 m.mems 32 okLm
  | 6 => okL8 m.globs 64 okG
  | 7 => okL8 m.exps 64 okE
  | 8 => decide (m.start = -1) || okU m.start
  | 9 => okL8 m.elems 32 okM
  | 10 => okL8 m.codes 128 okC
  | 11 => okL8 m.datas 32 okD
  | _ => true
noncomputable def encP (m : PMod) : List Int := (Sec.join7 (secL (secF m) 11)).1
noncomputable def okP (m : PMod) : Bool := decide (m.codes.length = m.funcs.length) && (okS (secO m) (secF m) 11 && decide ((Sec.join7 (secL (secF m) 11)).2 = 0))
structure FitP (m : PMod) : Prop where
  globs : ∀ p ∈ m.globs, u64R p.2.2.K
  elems : ∀ p ∈ m.elems, u64R p.1.K
  codes : ∀ p ∈ m.codes, ∀ x ∈ p.2, u64R x.K
  datas : ∀ p ∈ m.datas, u64R p.1.K
theorem okS_at {ok : Nat → Bool} {f : Nat → List Int} : ∀ {n k : Nat}, okS ok f n = true → k < n → ok (k + 1) = true ∧ (f (k + 1)).length ≤ 65536
  | 0, k, _, h => by omega
  | n + 1, k, h, hk => by
    unfold okS at h
    rw [Bool.and_eq_true, Bool.and_eq_true] at h
    rcases Nat.lt_or_ge k n with h1 | h1
    · exact okS_at h.1 h1
    · obtain rfl : k = n := by omega
      exact ⟨h.2.1, of_decide_eq_true h.2.2⟩
theorem secL_id (f : Nat → List Int) : ∀ (n : Nat), ∀ p ∈ secL f n, 1 ≤ p.1 ∧ p.1 ≤ (n : Int)
  | 0, p, h => by cases h
  | n + 1, p, h => by
    unfold secL at h
    rcases List.mem_append.1 h with h | h
    · have := secL_id f n p h
      omega
    · split at h
      · cases h
      · rw [List.mem_singleton.1 h]
        simp only
        omega
theorem mayb_snoc {x : Int} {D : List Int} : ∀ (l : List Sec.Sct) (a : Int), Sec.mayb a l = true → (∀ p ∈ l, p.1 < x) → a < x → 0 < x → x ≤ 11 → Sec.mayb a (l ++ [(x, D)]) = true
  | [], a, _, _, h1, h2, h3 => by
    rw [List.nil_append, Sec.mayb, Sec.may1_mk h2 h3 h1]
    rfl
  | p :: l, a, h, hp, h1, h2, h3 => by
    rw [Sec.mayb, Bool.and_eq_true] at h
    rw [List.cons_append, Sec.mayb, h.1, Bool.true_and]
    have := hp p (List.mem_cons_self ..)
    exact mayb_snoc l _ h.2 (fun q hq => hp q (List.mem_cons_of_mem _ hq)) (by omega) h2 h3
theorem secL_may (f : Nat → List Int) : ∀ n : Nat, n ≤ 11 → Sec.mayb 0 (secL f n) = true
  | 0, _ => rfl
  | n + 1, h => by
    have ih := secL_may f n (by omega)
    unfold secL
    split
    · rw [List.append_nil]; exact ih
    · exact mayb_snoc _ _ ih (fun p hp => by have := secL_id f n p hp; omega) (by omega) (by omega) (by omega)
theorem pdecs_snoc {s : Sec.Sct} : ∀ (l : List Sec.Sct) (m m' : PMod), pdecsM l m = (m', 0) → pdecsM (l ++ [s]) m = pdecsM [s] m'
  | [], m, m', h => by
    have : m = m' := congrArg Prod.fst h
    rw [this]
    rfl
  | q :: l, m, m', h => by
    rw [List.cons_append]
    by_cases h1 : q.1 = 0
    · rw [pdecs_skip h1] at h ⊢
      exact pdecs_snoc l m m' h
    · by_cases h2 : (pone q m).2 = 0
      · rw [pdecs_ok h1 h2] at h ⊢
        exact pdecs_snoc l _ m' h
      · rw [pdecs_err h1 h2] at h
        exact absurd (congrArg Prod.snd h) h2
theorem pone_of {s : Sec.Sct} {m m' : PMod} (h : psecM s.1 s.2 m = (m', s.2.length, 0)) : pone s m = (m', 0) := by
  unfold pone
  rw [h]
  simp only
  rw [if_neg (by simp)]
  unfold rleftM
  rw [decide_eq_false (by omega)]
  rfl
def upTo (m : PMod) (k : Nat) : PMod := ⟨if 1 ≤ k then m.types else [], if 2 ≤ k then m.imps else [], if 3 ≤ k then m.funcs else [], if 4 ≤ k then m.tabs else [], if 5 ≤ k then m.mems else [], if 6 ≤ k then m.globs else [], if 7 ≤ k then m.exps else [],
  if 8 ≤ k then m.start else -1, if 9 ≤ k then m.elems else [], if 10 ≤ k then m.codes else [], if 11 ≤ k then m.datas else []⟩
theorem many_all {α : Type} (M : List Int → Nat → Int → α × Nat × Int) (xf : α → List Int) {m : Int} {L : List α} {okf : α → Bool} (hk : okL8 L m okf = true) (hm : m ≤ 1000) (hp : ∀ p ∈ L, okf p = true → ∀ l a t, l.drop a = xf p ++ t → M l a 0 = (p, a + (xf p).length, 0)) :
    manyM m M (Leb.uB L.length ++ L.flatMap xf) 0 0 = (L, (Leb.uB L.length ++ L.flatMap xf).length, 0) := by
  unfold okL8 at hk
  rw [Bool.and_eq_true] at hk
  have := many_back (l := Leb.uB L.length ++ L.flatMap xf) (a := 0) (t := []) M xf id hm (of_decide_eq_true hk.1) (fun p hq a t h => hp p hq (List.all_eq_true.1 hk.2 p hq) _ a t h) (by simp)
  rw [List.map_id, Nat.zero_add] at this
  exact this
theorem upTo_step {m : PMod} (hf : FitP m) (k : Nat) (hk : k < 11) (ho : secO m (k + 1) = true) (hne : secF m (k + 1) ≠ []) : psecM ((k : Int) + 1) (secF m (k + 1)) (upTo m k) = (upTo m (k + 1), (secF m (k + 1)).length, 0) := by
  match k, hk with
  | 0, _ =>
    have e : secF m (0 + 1) = _ := someB_ne (L := m.types) (f := ftB) hne
    rw [e]
    unfold psecM
    rw [if_pos (by decide), many_all rtypM ftB (okf := okT) ho (by decide) (fun p _ hp l a t h => rtyp_back hp h)]
    rfl
  | 1, _ =>
    have e : secF m (1 + 1) = _ := someB_ne (L := m.imps) (f := impB) hne
    rw [e]
    unfold psecM
    rw [if_neg (by decide), if_pos (by decide), many_all rimpM impB (okf := okI) ho (by decide) (fun p _ hp l a t h => rimp_back hp h)]
    rfl
  | 2, _ =>
    have e : secF m (2 + 1) = _ := someB_ne (L := m.funcs) (f := numB) hne
    rw [e]
    have ho' : okL8 m.funcs 128 okU = true := ho
    unfold okL8 at ho'
    rw [Bool.and_eq_true] at ho'
    unfold psecM
    rw [if_neg (by decide), if_neg (by decide), if_pos (by decide), rnums_back (m := 128) (by decide) (of_decide_eq_true ho'.1) ho'.2 (a := 0) (t := []) (by simp), Nat.zero_add]
    rfl
  | 3, _ =>
    have e : secF m (3 + 1) = _ := someB_ne (L := m.tabs) (f := tabB) hne
    rw [e]
    unfold psecM
    rw [if_neg (by decide), if_neg (by decide), if_neg (by decide), if_pos (by decide), many_all rtabM tabB (okf := okLm) ho (by decide) (fun p _ hp l a t h => rtab_back hp h)]
    rfl
  | 4, _ =>
    have e : secF m (4 + 1) = _ := someB_ne (L := m.mems) (f := lmB) hne
    rw [e]
    unfold psecM
    rw [if_neg (by decide), if_neg (by decide), if_neg (by decide), if_neg (by decide), if_pos (by decide), many_all rlimM lmB (okf := okLm) ho (by decide) (fun p _ hp l a t h => rlim_back hp h)]
    rfl
  | 5, _ =>
    have e : secF m (5 + 1) = _ := someB_ne (L := m.globs) (f := glbB) hne
    rw [e]
    unfold psecM
    rw [if_neg (by decide), if_neg (by decide), if_neg (by decide), if_neg (by decide), if_neg (by decide), if_pos (by decide), many_all rglbM glbB (okf := okG) ho (by decide) (fun p hq hp l a t h => rglb_back (hf.globs p hq) hp h)]
    rfl
  | 6, _ =>
    have e : secF m (6 + 1) = _ := someB_ne (L := m.exps) (f := expB) hne
    rw [e]
    unfold psecM
    rw [if_neg (by decide), if_neg (by decide), if_neg (by decide), if_neg (by decide), if_neg (by decide), if_neg (by decide), if_pos (by decide), many_all rexpM expB (okf := okE) ho (by decide) (fun p hq hp l a t h => rexp_back hp h)]
    rfl
  | 7, _ =>
    have hs : m.start ≠ -1 := fun h => hne (if_pos h)
    have e : secF m (7 + 1) = numB m.start := if_neg hs
    have ho' : okU m.start = true := by
      have : (decide (m.start = -1) || okU m.start) = true := ho
      rw [decide_eq_false hs, Bool.false_or] at this
      exact this
    rw [e]
    unfold psecM
    rw [if_neg (by decide), if_neg (by decide), if_neg (by decide), if_neg (by decide), if_neg (by decide), if_neg (by decide), if_neg (by decide), if_pos (by decide), ruI_back ho' (a := 0) (t := []) (by simp), Nat.zero_add]
    rfl
  | 8, _ =>
    have e : secF m (8 + 1) = _ := someB_ne (L := m.elems) (f := elmB) hne
    rw [e]
    unfold psecM
    rw [if_neg (by decide), if_neg (by decide), if_neg (by decide), if_neg (by decide), if_neg (by decide), if_neg (by decide), if_neg (by decide), if_neg (by decide), if_pos (by decide), many_all relmM elmB (okf := okM) ho (by decide) (fun p hq hp l a t h => relm_back (hf.elems p hq) hp h)]
    rfl
  | 9, _ =>
    have e : secF m (9 + 1) = _ := someB_ne (L := m.codes) (f := codB) hne
    rw [e]
    unfold psecM
    rw [if_neg (by decide), if_neg (by decide), if_neg (by decide), if_neg (by decide), if_neg (by decide), if_neg (by decide), if_neg (by decide), if_neg (by decide), if_neg (by decide), if_pos (by decide), many_all rfuncM codB (okf := okC) ho (by decide) (fun p hq hp l a t h => rfunc_back (hf.codes p hq) hp h)]
    rfl
  | 10, _ =>
    have e : secF m (10 + 1) = _ := someB_ne (L := m.datas) (f := datB) hne
    rw [e]
    unfold psecM
    rw [if_neg (by decide), if_neg (by decide), if_neg (by decide), if_neg (by decide), if_neg (by decide), if_neg (by decide), if_neg (by decide), if_neg (by decide), if_neg (by decide), if_neg (by decide), many_all rdatM datB (okf := okD) ho (by decide) (fun p hq hp l a t h => rdat_back (hf.datas p hq) hp h)]
    rfl
  | k + 11, h => omega
theorem upTo_none {m : PMod} (k : Nat) (hk : k < 11) (h : secF m (k + 1) = []) : upTo m (k + 1) = upTo m k := by
  match k, hk with
  | 0, _ => unfold upTo; simp [someB_nil (L := m.types) h]
  | 1, _ => unfold upTo; simp [someB_nil (L := m.imps) h]
  | 2, _ => unfold upTo; simp [someB_nil (L := m.funcs) h]
  | 3, _ => unfold upTo; simp [someB_nil (L := m.tabs) h]
  | 4, _ => unfold upTo; simp [someB_nil (L := m.mems) h]
  | 5, _ => unfold upTo; simp [someB_nil (L := m.globs) h]
  | 6, _ => unfold upTo; simp [someB_nil (L := m.exps) h]
  | 7, _ =>
    have hs : m.start = -1 := by
      by_cases h1 : m.start = -1
      · exact h1
      · have h2 : numB m.start = [] := by rw [← h]; exact (if_neg h1).symm
        exact absurd h2 (uB_ne _)
    unfold upTo
    simp [hs]
  | 8, _ => unfold upTo; simp [someB_nil (L := m.elems) h]
  | 9, _ => unfold upTo; simp [someB_nil (L := m.codes) h]
  | 10, _ => unfold upTo; simp [someB_nil (L := m.datas) h]
  | k + 11, h => omega
theorem upTo_all (m : PMod) : upTo m 11 = m := rfl
theorem upTo_zero (m : PMod) : upTo m 0 = noMod (-1) := rfl
theorem decs_back {m : PMod} (hf : FitP m) (ho : okS (secO m) (secF m) 11 = true) : ∀ k : Nat, k ≤ 11 → pdecsM (secL (secF m) k) (noMod (-1)) = (upTo m k, 0)
  | 0, _ => by rw [upTo_zero]; rfl
  | k + 1, hk => by
    have ih := decs_back hf ho k (by omega)
    unfold secL
    split
    · rename_i h
      rw [List.append_nil, upTo_none k (by omega) h]
      exact ih
    · rename_i h
      rw [pdecs_snoc _ _ _ ih]
      have h1 := upTo_step hf k (by omega) (okS_at ho (by omega)).1 h
      have h2 := pone_of (s := (((k + 1 : Nat) : Int), secF m (k + 1))) (m := upTo m k) (by rw [show ((k + 1 : Nat) : Int) = (k : Int) + 1 from by omega]; exact h1)
      rw [pdecs_ok (by simp only; omega) (by rw [h2]), h2]
      rfl
theorem dec_enc {m : PMod} (hf : FitP m) (ho : okP m = true) : pdecM (encP m) = (m, 0) := by
  unfold okP at ho
  rw [Bool.and_eq_true, Bool.and_eq_true] at ho
  obtain ⟨h1, h2, h3⟩ := ho
  have h1' := of_decide_eq_true h1
  have h3' := of_decide_eq_true h3
  have hm := secL_may (secF m) 11 (by omega)
  have hl : 8 + (Sec.secsB (secL (secF m) 11)).length ≤ 65536 := by
    unfold Sec.join7 at h3'
    rw [if_neg (by rw [hm]; decide)] at h3'
    split at h3'
    · exact absurd h3' (by decide)
    · omega
  unfold encP
  rw [Sec.join_ok hm hl]
  unfold pdecM
  rw [Sec.split_join hm hl, if_neg (by simp)]
  simp only
  rw [decs_back hf h2 11 (by omega), upTo_all]
  unfold decEnd
  rw [if_neg (by simp), if_neg (by simpa using h1')]
theorem enc_inj {a b : PMod} (ha : FitP a) (hb : FitP b) (oa : okP a = true) (ob : okP b = true) : encP a = encP b ↔ a = b := by
  refine ⟨fun h => ?_, fun h => by rw [h]⟩
  have h1 := dec_enc ha oa
  rw [h, dec_enc hb ob] at h1
  exact (congrArg Prod.fst h1).symm
end Go.Proofs.YtffegkjlgeblbaaGreatDoor.Mdl
end
