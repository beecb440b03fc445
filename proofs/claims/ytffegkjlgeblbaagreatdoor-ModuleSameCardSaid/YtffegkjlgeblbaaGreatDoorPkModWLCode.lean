/- ModWLGlobalDef, ModWLExport, ModWLElem, ModWLCode. -/
import Derived.Test.YtffegkjlgeblbaaGreatDoorPkModWLI
section
/- The program's lists of GlobalDef, laid: walked. -/
namespace Go.Proofs.YtffegkjlgeblbaaGreatDoor.Mdl
open Go.RowKit Ints Typ Ins
set_option maxRecDepth 100000
set_option maxHeartbeats 4000000
set_option linter.unusedVariables false
theorem wlist_GlobalDef (okf : GlbT → Bool) (xf : GlbT → List Int) (m : Int) (K : Nat) {w0 w : World} {v : Value} {L : List GlbT} {g : Nat} {b : List Int} {bad : Bool} (hw : WS w g b bad) (hr : RowG.Row elG w0 v L) (hb : Below w0.heap.size w0 w) (hg : w0.heap.size ≤ g) (hL : L.length ≤ 100000)
    (hrun : ∀ args W, (callFunc K args).run Tryz.prog W = .ok (.enter K args) W)
    (hone : ∀ W b' bad' p, p ∈ L → WS W g b' bad' → Below w0.heap.size w0 W → Calls Tryz.prog K #[.pointer (some ⟨g, 0, none⟩), (fun p : GlbT => .agg #[.int .u8 p.1, .bool p.2.1, .int .i64 p.2.2.1.op, .int .i64 p.2.2.1.A, .int .i64 p.2.2.1.B, .int .u64 p.2.2.1.K, p.2.2.2]) p] W (WTold g b' bad' (okf p) (xf p) W)) :
    Calls Tryz.prog 201 #[.pointer (some ⟨g, 0, none⟩), v, .int .i64 m, .func (.func K) #[.pointer (some ⟨g, 0, none⟩)] #[]] w (WTold g b bad (decide ((L.length : Int) ≤ m) && L.all okf) (Leb.uB L.length ++ L.flatMap xf) w) := by
  obtain ⟨P, c, rfl⟩ := row_len hr
  obtain ⟨n, hn⟩ : ∃ n, L.length = n := ⟨_, rfl⟩
  have HN := Lib.hid hn
  rw [hn] at hr hL ⊢
  have HR := Lib.hid hr
  have HBW := Lib.hid hb
  have HG := Lib.hid hg
  have HONE := Lib.hid hone
  obtain ⟨hd, hhd⟩ : ∃ r, decide ((n : Int) ≤ m) = r := ⟨_, rfl⟩
  have HWN := Lib.hid (wneed hd hw)
  have HD := Lib.hid (hw.set1 (bad || !hd))
  obtain ⟨W1, hW1⟩ : ∃ W, w.setCell ⟨g, 1, none⟩ (.bool (bad || !hd)) = W := ⟨_, rfl⟩
  have HFR : Hid (WFr g w W1) := Lib.hid (by rw [← hW1]; exact (WFr.refl g w).setCell _ _)
  rw [hW1] at HD HWN
  rw [hhd]
  obtain ⟨TO, hTO⟩ : ∃ r, (hd && L.all okf) = r := ⟨_, rfl⟩
  obtain ⟨TX, hTX⟩ : ∃ r, Leb.uB n ++ L.flatMap xf = r := ⟨_, rfl⟩
  have HTO := Lib.hid hTO
  have HTX := Lib.hid hTX
  rw [hTO, hTX]
  clear hW1 hw hr hb hg hone hn hTO hTX
  go_enter Tryz.func201, Tryz.ntmps201
  go_wp2_with fail
  refine HWN.out.mono ?_
  rintro en w1 ⟨rfl, hw1⟩
  obtain rfl : W1 = w1 := hw1.symm
  go_wp2_with fail
  refine (wnum (n : Int) (by omega) HD.out).mono ?_
  rintro en w2 ⟨b2, bad2, rfl, hs2, hp2, hf2⟩
  have HS2 := Lib.hid hs2
  have HP2 : Hid (Puts b bad b2 bad2 hd (Leb.uB n)) := Lib.hid (Puts.after (by rw [okU_nat hL, Int.toNat_natCast] at hp2; exact hp2))
  have HF2 := Lib.hid (HFR.out.trans hf2)
  clear hs2 hp2 hf2 hhd
  go_wp2_with fail
  go_loopw [22] (fun i' wr => ∃ (i : Nat) (b' : List Int) (bad' : Bool), i' = .int .i64 (i : Int) ∧ i ≤ n ∧ WS wr g b' bad' ∧ Puts b bad b' bad' (hd && (L.take i).all okf) (Leb.uB n ++ (L.take i).flatMap xf) ∧ WFr g w wr) (fun i' _ => n - (intOf i').toNat)
  case atStart => exact ⟨0, b2, bad2, by go_num, by omega, HS2.out, by simpa using HP2.out, HF2.out⟩
  case round =>
    obtain ⟨i, b', bad', rfl, hi, hs, hp, hf⟩ := hrel
    have HS := Lib.hid hs
    have HP := Lib.hid hp
    have HF := Lib.hid hf
    clear hs hp hf HS2 HP2 HF2
    by_cases hlt : i < n
    · obtain ⟨p, hp⟩ : ∃ p, L[i]? = some p := ⟨_, List.getElem?_eq_getElem (by rw [HN.out]; exact hlt)⟩
      have HBR : Hid (Below w0.heap.size w0 wr) := Lib.hid (HBW.out.trans (HF.out.below.mono HG.out))
      obtain ⟨g1, off, rfl, hg1, hA, hok⟩ := (HR.out.keep HBR.out).at_ hp
      rw [show (elG.s) = 7 from rfl] at hA
      have q0 := hA 0 (.int .u8 p.1) rfl
      have q1 := hA 1 (.bool p.2.1) rfl
      have q2 := hA 2 (.int .i64 p.2.2.1.op) rfl
      have q3 := hA 3 (.int .i64 p.2.2.1.A) rfl
      have q4 := hA 4 (.int .i64 p.2.2.1.B) rfl
      have q5 := hA 5 (.int .u64 p.2.2.1.K) rfl
      have q6 := hA 6 p.2.2.2 rfl
      rw [Nat.add_zero] at q0
      have HPM := Lib.hid (List.mem_of_getElem? hp)
      have HAN := Lib.hid (all_next okf hp)
      have HFN := Lib.hid (flat_next xf hp)
      have i1 : (0 : Int) ≤ (i : Int) := by omega
      have i2 : (i : Int) < (n : Int) := by omega
      have hw1 : IntKind.i64.wrap ((i : Int) + 1) = (i : Int) + 1 := IntWalk.i64_in _ (by omega)
      clear hA hp hg1
      obtain ⟨x0, x1, ⟨⟨op, A, B, K', Ls⟩, c6⟩⟩ := p
      obtain ⟨_, ⟨A0, k0, e0, _⟩, _⟩ := hok
      simp only at e0
      subst e0
      obtain ⟨W2, hW2⟩ : ∃ W, wr.alloc (.cells #[.int .u8 x0, .bool x1, .int .i64 op, .int .i64 A, .int .i64 B, .int .u64 K', .slice A0 Ls.length k0] 69) = W := ⟨_, rfl⟩
      have HA2 : Hid (Below wr.heap.size wr W2) := Lib.hid (by rw [← hW2]; exact (Below.refl _ _).alloc (Nat.le_refl _) _)
      have HS2 : Hid (WS W2 g b' bad') := Lib.hid (HS.out.keep HA2.out)
      have HF2 : Hid (WFr g w W2) := Lib.hid (HF.out.trans (WFr.of_below HA2.out HS.out.lt))
      have HO2 := Lib.hid (HONE.out W2 b' bad' _ HPM.out HS2.out (HBR.out.trans (HA2.out.mono HBR.out.size)))
      rw [← hW2] at HS2 HF2 HO2
      obtain ⟨⟨Pb, cb, h1, _⟩, _⟩ := id HS.out
      have d1 := Lib.cell?_alloc_some (.cells #[.int .u8 x0, .bool x1, .int .i64 op, .int .i64 A, .int .i64 B, .int .u64 K', .slice A0 Ls.length k0] 69) (Sec.cells_at h1 1).1
      clear h1 hW2
      cases bad' with
      | true =>
        have HE : Hid (WTold g b bad TO TX w (.returned (.tuple #[])) (wr.alloc (.cells #[.int .u8 x0, .bool x1, .int .i64 op, .int .i64 A, .int .i64 B, .int .u64 K', .slice A0 Ls.length k0] 69))) := Lib.hid ⟨b', true, rfl, HS2.out, by
          rw [← HTO.out, ← HTX.out, all_cut okf L i, flat_cut xf L i, ← Bool.and_assoc, ← List.append_assoc]
          exact Puts.stop HP.out, HF2.out⟩
        go_wp2_with fail
        exact bodyPost_ret (P := Tryz.prog) (fn := Tryz.f201) (v := .tuple #[]) (by simp [results, Tryz.results201, go_sem]) rfl HE.out
      | false =>
        go_wp2_with fail
        refine HO2.out.mono ?_
        rintro en w3 ⟨b3, bad3, rfl, hs3, hp3, hf3⟩
        have HS3 := Lib.hid hs3
        have HP3 : Hid (Puts b bad b3 bad3 (hd && (L.take (i + 1)).all okf) (Leb.uB n ++ (L.take (i + 1)).flatMap xf)) := Lib.hid (by
          rw [HAN.out, HFN.out, ← Bool.and_assoc, ← List.append_assoc]
          exact HP.out.trans hp3)
        have HF3 := Lib.hid (HF2.out.trans hf3)
        clear hs3 hp3 hf3
        go_wp2_with fail
        go_roundw
        case rel => exact ⟨i + 1, b3, bad3, by go_num, hlt, HS3.out, HP3.out, HF3.out⟩
        case measure => simp [intOf]; omega
    · have hin : i = n := by omega
      subst hin
      have HE : Hid (WTold g b bad TO TX w (.returned (.tuple #[])) wr) := Lib.hid ⟨b', bad', rfl, HS.out, by
        have := HP.out
        rw [List.take_of_length_le (by rw [HN.out]; exact Nat.le_refl _)] at this
        rw [← HTO.out, ← HTX.out]
        exact this, HF.out⟩
      go_wp2_with fail
      exact bodyPost_end (v := .tuple #[]) (by simp [results, Tryz.results201, go_sem]) rfl HE.out
theorem wsome_GlobalDef (okf : GlbT → Bool) (xf : GlbT → List Int) (m : Int) (K : Nat) {w0 w : World} {v : Value} {L : List GlbT} {g : Nat} {b : List Int} {bad : Bool} (hw : WS w g b bad) (hr : RowG.Row elG w0 v L) (hb : Below w0.heap.size w0 w) (hg : w0.heap.size ≤ g) (hL : L.length ≤ 100000) (h0 : 0 < L.length)
    (hrun : ∀ args W, (callFunc K args).run Tryz.prog W = .ok (.enter K args) W)
    (hone : ∀ W b' bad' p, p ∈ L → WS W g b' bad' → Below w0.heap.size w0 W → Calls Tryz.prog K #[.pointer (some ⟨g, 0, none⟩), (fun p : GlbT => .agg #[.int .u8 p.1, .bool p.2.1, .int .i64 p.2.2.1.op, .int .i64 p.2.2.1.A, .int .i64 p.2.2.1.B, .int .u64 p.2.2.1.K, p.2.2.2]) p] W (WTold g b' bad' (okf p) (xf p) W)) :
    Calls Tryz.prog 153 #[.pointer (some ⟨g, 0, none⟩), v, .int .i64 m, .func (.func K) #[.pointer (some ⟨g, 0, none⟩)] #[]] w (WTold g b bad (decide ((L.length : Int) ≤ m) && L.all okf) (Leb.uB L.length ++ L.flatMap xf) w) := by
  have HC := Lib.hid (wlist_GlobalDef okf xf m K hw hr hb hg hL hrun hone)
  obtain ⟨P, c, rfl⟩ := row_len hr
  obtain ⟨TO, hTO⟩ : ∃ r, (decide ((L.length : Int) ≤ m) && L.all okf) = r := ⟨_, rfl⟩
  obtain ⟨TX, hTX⟩ : ∃ r, Leb.uB L.length ++ L.flatMap xf = r := ⟨_, rfl⟩
  rw [hTO, hTX] at HC ⊢
  clear hTO hTX
  obtain ⟨n, hn⟩ : ∃ n, L.length = n := ⟨_, rfl⟩
  rw [hn] at HC h0 ⊢
  have t1 : decide ((0 : Int) < (n : Int)) = true := decide_eq_true (by omega)
  have t2 : decide (0 < n) = true := decide_eq_true h0
  clear hw hr hb hg hL hone hn h0
  go_enter Tryz.func153, Tryz.ntmps153
  go_wp2_with fail
  refine HC.out.mono ?_
  rintro en w3 ⟨b3, bad3, rfl, hs3, hp3, hf3⟩
  have HE : Hid (WTold g b bad TO TX w (.returned (.tuple #[])) w3) := Lib.hid ⟨b3, bad3, rfl, hs3, hp3, hf3⟩
  clear hs3 hp3 hf3
  go_wp2_with fail
  exact bodyPost_end (v := .tuple #[]) (by simp [results, Tryz.results153, go_sem]) rfl HE.out
end Go.Proofs.YtffegkjlgeblbaaGreatDoor.Mdl
end

section
/- The program's lists of Export, laid: walked. -/
namespace Go.Proofs.YtffegkjlgeblbaaGreatDoor.Mdl
open Go.RowKit Ints Typ Ins
set_option maxRecDepth 100000
set_option maxHeartbeats 4000000
set_option linter.unusedVariables false
theorem wlist_Export (okf : ExpT → Bool) (xf : ExpT → List Int) (m : Int) (K : Nat) {w0 w : World} {v : Value} {L : List ExpT} {g : Nat} {b : List Int} {bad : Bool} (hw : WS w g b bad) (hr : RowG.Row elX w0 v L) (hb : Below w0.heap.size w0 w) (hg : w0.heap.size ≤ g) (hL : L.length ≤ 100000)
    (hrun : ∀ args W, (callFunc K args).run Tryz.prog W = .ok (.enter K args) W)
    (hone : ∀ W b' bad' p, p ∈ L → WS W g b' bad' → Below w0.heap.size w0 W → Calls Tryz.prog K #[.pointer (some ⟨g, 0, none⟩), (fun p : ExpT => .agg #[.string p.1, .int .i64 p.2.1, .int .i64 p.2.2]) p] W (WTold g b' bad' (okf p) (xf p) W)) :
    Calls Tryz.prog 203 #[.pointer (some ⟨g, 0, none⟩), v, .int .i64 m, .func (.func K) #[.pointer (some ⟨g, 0, none⟩)] #[]] w (WTold g b bad (decide ((L.length : Int) ≤ m) && L.all okf) (Leb.uB L.length ++ L.flatMap xf) w) := by
  obtain ⟨P, c, rfl⟩ := row_len hr
  obtain ⟨n, hn⟩ : ∃ n, L.length = n := ⟨_, rfl⟩
  have HN := Lib.hid hn
  rw [hn] at hr hL ⊢
  have HR := Lib.hid hr
  have HBW := Lib.hid hb
  have HG := Lib.hid hg
  have HONE := Lib.hid hone
  obtain ⟨hd, hhd⟩ : ∃ r, decide ((n : Int) ≤ m) = r := ⟨_, rfl⟩
  have HWN := Lib.hid (wneed hd hw)
  have HD := Lib.hid (hw.set1 (bad || !hd))
  obtain ⟨W1, hW1⟩ : ∃ W, w.setCell ⟨g, 1, none⟩ (.bool (bad || !hd)) = W := ⟨_, rfl⟩
  have HFR : Hid (WFr g w W1) := Lib.hid (by rw [← hW1]; exact (WFr.refl g w).setCell _ _)
  rw [hW1] at HD HWN
  rw [hhd]
  obtain ⟨TO, hTO⟩ : ∃ r, (hd && L.all okf) = r := ⟨_, rfl⟩
  obtain ⟨TX, hTX⟩ : ∃ r, Leb.uB n ++ L.flatMap xf = r := ⟨_, rfl⟩
  have HTO := Lib.hid hTO
  have HTX := Lib.hid hTX
  rw [hTO, hTX]
  clear hW1 hw hr hb hg hone hn hTO hTX
  go_enter Tryz.func203, Tryz.ntmps203
  go_wp2_with fail
  refine HWN.out.mono ?_
  rintro en w1 ⟨rfl, hw1⟩
  obtain rfl : W1 = w1 := hw1.symm
  go_wp2_with fail
  refine (wnum (n : Int) (by omega) HD.out).mono ?_
  rintro en w2 ⟨b2, bad2, rfl, hs2, hp2, hf2⟩
  have HS2 := Lib.hid hs2
  have HP2 : Hid (Puts b bad b2 bad2 hd (Leb.uB n)) := Lib.hid (Puts.after (by rw [okU_nat hL, Int.toNat_natCast] at hp2; exact hp2))
  have HF2 := Lib.hid (HFR.out.trans hf2)
  clear hs2 hp2 hf2 hhd
  go_wp2_with fail
  go_loopw [22] (fun i' wr => ∃ (i : Nat) (b' : List Int) (bad' : Bool), i' = .int .i64 (i : Int) ∧ i ≤ n ∧ WS wr g b' bad' ∧ Puts b bad b' bad' (hd && (L.take i).all okf) (Leb.uB n ++ (L.take i).flatMap xf) ∧ WFr g w wr) (fun i' _ => n - (intOf i').toNat)
  case atStart => exact ⟨0, b2, bad2, by go_num, by omega, HS2.out, by simpa using HP2.out, HF2.out⟩
  case round =>
    obtain ⟨i, b', bad', rfl, hi, hs, hp, hf⟩ := hrel
    have HS := Lib.hid hs
    have HP := Lib.hid hp
    have HF := Lib.hid hf
    clear hs hp hf HS2 HP2 HF2
    by_cases hlt : i < n
    · obtain ⟨p, hp⟩ : ∃ p, L[i]? = some p := ⟨_, List.getElem?_eq_getElem (by rw [HN.out]; exact hlt)⟩
      have HBR : Hid (Below w0.heap.size w0 wr) := Lib.hid (HBW.out.trans (HF.out.below.mono HG.out))
      obtain ⟨g1, off, rfl, hg1, hA, hok⟩ := (HR.out.keep HBR.out).at_ hp
      rw [show (elX.s) = 3 from rfl] at hA
      have q0 := hA 0 (.string p.1) rfl
      have q1 := hA 1 (.int .i64 p.2.1) rfl
      have q2 := hA 2 (.int .i64 p.2.2) rfl
      rw [Nat.add_zero] at q0
      have HPM := Lib.hid (List.mem_of_getElem? hp)
      have HAN := Lib.hid (all_next okf hp)
      have HFN := Lib.hid (flat_next xf hp)
      have i1 : (0 : Int) ≤ (i : Int) := by omega
      have i2 : (i : Int) < (n : Int) := by omega
      have hw1 : IntKind.i64.wrap ((i : Int) + 1) = (i : Int) + 1 := IntWalk.i64_in _ (by omega)
      clear hA hp hg1
      obtain ⟨s, k, i1⟩ := p
      obtain ⟨W2, hW2⟩ : ∃ W, wr.alloc (.cells #[.string s, .int .i64 k, .int .i64 i1] 97) = W := ⟨_, rfl⟩
      have HA2 : Hid (Below wr.heap.size wr W2) := Lib.hid (by rw [← hW2]; exact (Below.refl _ _).alloc (Nat.le_refl _) _)
      have HS2 : Hid (WS W2 g b' bad') := Lib.hid (HS.out.keep HA2.out)
      have HF2 : Hid (WFr g w W2) := Lib.hid (HF.out.trans (WFr.of_below HA2.out HS.out.lt))
      have HO2 := Lib.hid (HONE.out W2 b' bad' _ HPM.out HS2.out (HBR.out.trans (HA2.out.mono HBR.out.size)))
      rw [← hW2] at HS2 HF2 HO2
      obtain ⟨⟨Pb, cb, h1, _⟩, _⟩ := id HS.out
      have d1 := Lib.cell?_alloc_some (.cells #[.string s, .int .i64 k, .int .i64 i1] 97) (Sec.cells_at h1 1).1
      clear h1 hW2
      cases bad' with
      | true =>
        have HE : Hid (WTold g b bad TO TX w (.returned (.tuple #[])) (wr.alloc (.cells #[.string s, .int .i64 k, .int .i64 i1] 97))) := Lib.hid ⟨b', true, rfl, HS2.out, by
          rw [← HTO.out, ← HTX.out, all_cut okf L i, flat_cut xf L i, ← Bool.and_assoc, ← List.append_assoc]
          exact Puts.stop HP.out, HF2.out⟩
        go_wp2_with fail
        exact bodyPost_ret (P := Tryz.prog) (fn := Tryz.f203) (v := .tuple #[]) (by simp [results, Tryz.results203, go_sem]) rfl HE.out
      | false =>
        go_wp2_with fail
        refine HO2.out.mono ?_
        rintro en w3 ⟨b3, bad3, rfl, hs3, hp3, hf3⟩
        have HS3 := Lib.hid hs3
        have HP3 : Hid (Puts b bad b3 bad3 (hd && (L.take (i + 1)).all okf) (Leb.uB n ++ (L.take (i + 1)).flatMap xf)) := Lib.hid (by
          rw [HAN.out, HFN.out, ← Bool.and_assoc, ← List.append_assoc]
          exact HP.out.trans hp3)
        have HF3 := Lib.hid (HF2.out.trans hf3)
        clear hs3 hp3 hf3
        go_wp2_with fail
        go_roundw
        case rel => exact ⟨i + 1, b3, bad3, by go_num, hlt, HS3.out, HP3.out, HF3.out⟩
        case measure => simp [intOf]; omega
    · have hin : i = n := by omega
      subst hin
      have HE : Hid (WTold g b bad TO TX w (.returned (.tuple #[])) wr) := Lib.hid ⟨b', bad', rfl, HS.out, by
        have := HP.out
        rw [List.take_of_length_le (by rw [HN.out]; exact Nat.le_refl _)] at this
        rw [← HTO.out, ← HTX.out]
        exact this, HF.out⟩
      go_wp2_with fail
      exact bodyPost_end (v := .tuple #[]) (by simp [results, Tryz.results203, go_sem]) rfl HE.out
theorem wsome_Export (okf : ExpT → Bool) (xf : ExpT → List Int) (m : Int) (K : Nat) {w0 w : World} {v : Value} {L : List ExpT} {g : Nat} {b : List Int} {bad : Bool} (hw : WS w g b bad) (hr : RowG.Row elX w0 v L) (hb : Below w0.heap.size w0 w) (hg : w0.heap.size ≤ g) (hL : L.length ≤ 100000) (h0 : 0 < L.length)
    (hrun : ∀ args W, (callFunc K args).run Tryz.prog W = .ok (.enter K args) W)
    (hone : ∀ W b' bad' p, p ∈ L → WS W g b' bad' → Below w0.heap.size w0 W → Calls Tryz.prog K #[.pointer (some ⟨g, 0, none⟩), (fun p : ExpT => .agg #[.string p.1, .int .i64 p.2.1, .int .i64 p.2.2]) p] W (WTold g b' bad' (okf p) (xf p) W)) :
    Calls Tryz.prog 155 #[.pointer (some ⟨g, 0, none⟩), v, .int .i64 m, .func (.func K) #[.pointer (some ⟨g, 0, none⟩)] #[]] w (WTold g b bad (decide ((L.length : Int) ≤ m) && L.all okf) (Leb.uB L.length ++ L.flatMap xf) w) := by
  have HC := Lib.hid (wlist_Export okf xf m K hw hr hb hg hL hrun hone)
  obtain ⟨P, c, rfl⟩ := row_len hr
  obtain ⟨TO, hTO⟩ : ∃ r, (decide ((L.length : Int) ≤ m) && L.all okf) = r := ⟨_, rfl⟩
  obtain ⟨TX, hTX⟩ : ∃ r, Leb.uB L.length ++ L.flatMap xf = r := ⟨_, rfl⟩
  rw [hTO, hTX] at HC ⊢
  clear hTO hTX
  obtain ⟨n, hn⟩ : ∃ n, L.length = n := ⟨_, rfl⟩
  rw [hn] at HC h0 ⊢
  have t1 : decide ((0 : Int) < (n : Int)) = true := decide_eq_true (by omega)
  have t2 : decide (0 < n) = true := decide_eq_true h0
  clear hw hr hb hg hL hone hn h0
  go_enter Tryz.func155, Tryz.ntmps155
  go_wp2_with fail
  refine HC.out.mono ?_
  rintro en w3 ⟨b3, bad3, rfl, hs3, hp3, hf3⟩
  have HE : Hid (WTold g b bad TO TX w (.returned (.tuple #[])) w3) := Lib.hid ⟨b3, bad3, rfl, hs3, hp3, hf3⟩
  clear hs3 hp3 hf3
  go_wp2_with fail
  exact bodyPost_end (v := .tuple #[]) (by simp [results, Tryz.results155, go_sem]) rfl HE.out
end Go.Proofs.YtffegkjlgeblbaaGreatDoor.Mdl
end

section
/- The program's lists of Elem, laid: walked. -/
namespace Go.Proofs.YtffegkjlgeblbaaGreatDoor.Mdl
open Go.RowKit Ints Typ Ins
set_option maxRecDepth 100000
set_option maxHeartbeats 4000000
set_option linter.unusedVariables false
theorem wlist_Elem (okf : ElmT → Bool) (xf : ElmT → List Int) (m : Int) (K : Nat) {w0 w : World} {v : Value} {L : List ElmT} {g : Nat} {b : List Int} {bad : Bool} (hw : WS w g b bad) (hr : RowG.Row elE w0 v L) (hb : Below w0.heap.size w0 w) (hg : w0.heap.size ≤ g) (hL : L.length ≤ 100000)
    (hrun : ∀ args W, (callFunc K args).run Tryz.prog W = .ok (.enter K args) W)
    (hone : ∀ W b' bad' p, p ∈ L → WS W g b' bad' → Below w0.heap.size w0 W → Calls Tryz.prog K #[.pointer (some ⟨g, 0, none⟩), (fun p : ElmT => .agg #[.int .i64 p.1.1.op, .int .i64 p.1.1.A, .int .i64 p.1.1.B, .int .u64 p.1.1.K, p.1.2, p.2.2]) p] W (WTold g b' bad' (okf p) (xf p) W)) :
    Calls Tryz.prog 204 #[.pointer (some ⟨g, 0, none⟩), v, .int .i64 m, .func (.func K) #[.pointer (some ⟨g, 0, none⟩)] #[]] w (WTold g b bad (decide ((L.length : Int) ≤ m) && L.all okf) (Leb.uB L.length ++ L.flatMap xf) w) := by
  obtain ⟨P, c, rfl⟩ := row_len hr
  obtain ⟨n, hn⟩ : ∃ n, L.length = n := ⟨_, rfl⟩
  have HN := Lib.hid hn
  rw [hn] at hr hL ⊢
  have HR := Lib.hid hr
  have HBW := Lib.hid hb
  have HG := Lib.hid hg
  have HONE := Lib.hid hone
  obtain ⟨hd, hhd⟩ : ∃ r, decide ((n : Int) ≤ m) = r := ⟨_, rfl⟩
  have HWN := Lib.hid (wneed hd hw)
  have HD := Lib.hid (hw.set1 (bad || !hd))
  obtain ⟨W1, hW1⟩ : ∃ W, w.setCell ⟨g, 1, none⟩ (.bool (bad || !hd)) = W := ⟨_, rfl⟩
  have HFR : Hid (WFr g w W1) := Lib.hid (by rw [← hW1]; exact (WFr.refl g w).setCell _ _)
  rw [hW1] at HD HWN
  rw [hhd]
  obtain ⟨TO, hTO⟩ : ∃ r, (hd && L.all okf) = r := ⟨_, rfl⟩
  obtain ⟨TX, hTX⟩ : ∃ r, Leb.uB n ++ L.flatMap xf = r := ⟨_, rfl⟩
  have HTO := Lib.hid hTO
  have HTX := Lib.hid hTX
  rw [hTO, hTX]
  clear hW1 hw hr hb hg hone hn hTO hTX
  go_enter Tryz.func204, Tryz.ntmps204
  go_wp2_with fail
  refine HWN.out.mono ?_
  rintro en w1 ⟨rfl, hw1⟩
  obtain rfl : W1 = w1 := hw1.symm
  go_wp2_with fail
  refine (wnum (n : Int) (by omega) HD.out).mono ?_
  rintro en w2 ⟨b2, bad2, rfl, hs2, hp2, hf2⟩
  have HS2 := Lib.hid hs2
  have HP2 : Hid (Puts b bad b2 bad2 hd (Leb.uB n)) := Lib.hid (Puts.after (by rw [okU_nat hL, Int.toNat_natCast] at hp2; exact hp2))
  have HF2 := Lib.hid (HFR.out.trans hf2)
  clear hs2 hp2 hf2 hhd
  go_wp2_with fail
  go_loopw [22] (fun i' wr => ∃ (i : Nat) (b' : List Int) (bad' : Bool), i' = .int .i64 (i : Int) ∧ i ≤ n ∧ WS wr g b' bad' ∧ Puts b bad b' bad' (hd && (L.take i).all okf) (Leb.uB n ++ (L.take i).flatMap xf) ∧ WFr g w wr) (fun i' _ => n - (intOf i').toNat)
  case atStart => exact ⟨0, b2, bad2, by go_num, by omega, HS2.out, by simpa using HP2.out, HF2.out⟩
  case round =>
    obtain ⟨i, b', bad', rfl, hi, hs, hp, hf⟩ := hrel
    have HS := Lib.hid hs
    have HP := Lib.hid hp
    have HF := Lib.hid hf
    clear hs hp hf HS2 HP2 HF2
    by_cases hlt : i < n
    · obtain ⟨p, hp⟩ : ∃ p, L[i]? = some p := ⟨_, List.getElem?_eq_getElem (by rw [HN.out]; exact hlt)⟩
      have HBR : Hid (Below w0.heap.size w0 wr) := Lib.hid (HBW.out.trans (HF.out.below.mono HG.out))
      obtain ⟨g1, off, rfl, hg1, hA, hok⟩ := (HR.out.keep HBR.out).at_ hp
      rw [show (elE.s) = 6 from rfl] at hA
      have q0 := hA 0 (.int .i64 p.1.1.op) rfl
      have q1 := hA 1 (.int .i64 p.1.1.A) rfl
      have q2 := hA 2 (.int .i64 p.1.1.B) rfl
      have q3 := hA 3 (.int .u64 p.1.1.K) rfl
      have q4 := hA 4 p.1.2 rfl
      have q5 := hA 5 p.2.2 rfl
      rw [Nat.add_zero] at q0
      have HPM := Lib.hid (List.mem_of_getElem? hp)
      have HAN := Lib.hid (all_next okf hp)
      have HFN := Lib.hid (flat_next xf hp)
      have i1 : (0 : Int) ≤ (i : Int) := by omega
      have i2 : (i : Int) < (n : Int) := by omega
      have hw1 : IntKind.i64.wrap ((i : Int) + 1) = (i : Int) + 1 := IntWalk.i64_in _ (by omega)
      clear hA hp hg1
      obtain ⟨⟨⟨op, A, B, K', Ls⟩, c4⟩, ⟨x1, c5'⟩⟩ := p
      obtain ⟨⟨⟨A0, k0, e0, _⟩, _⟩, ⟨A1, k1, e1, _⟩⟩ := hok
      simp only at e0 e1
      subst e0 e1
      obtain ⟨W2, hW2⟩ : ∃ W, wr.alloc (.cells #[.int .i64 op, .int .i64 A, .int .i64 B, .int .u64 K', .slice A0 Ls.length k0, .slice A1 x1.length k1] 87) = W := ⟨_, rfl⟩
      have HA2 : Hid (Below wr.heap.size wr W2) := Lib.hid (by rw [← hW2]; exact (Below.refl _ _).alloc (Nat.le_refl _) _)
      have HS2 : Hid (WS W2 g b' bad') := Lib.hid (HS.out.keep HA2.out)
      have HF2 : Hid (WFr g w W2) := Lib.hid (HF.out.trans (WFr.of_below HA2.out HS.out.lt))
      have HO2 := Lib.hid (HONE.out W2 b' bad' _ HPM.out HS2.out (HBR.out.trans (HA2.out.mono HBR.out.size)))
      rw [← hW2] at HS2 HF2 HO2
      obtain ⟨⟨Pb, cb, h1, _⟩, _⟩ := id HS.out
      have d1 := Lib.cell?_alloc_some (.cells #[.int .i64 op, .int .i64 A, .int .i64 B, .int .u64 K', .slice A0 Ls.length k0, .slice A1 x1.length k1] 87) (Sec.cells_at h1 1).1
      clear h1 hW2
      cases bad' with
      | true =>
        have HE : Hid (WTold g b bad TO TX w (.returned (.tuple #[])) (wr.alloc (.cells #[.int .i64 op, .int .i64 A, .int .i64 B, .int .u64 K', .slice A0 Ls.length k0, .slice A1 x1.length k1] 87))) := Lib.hid ⟨b', true, rfl, HS2.out, by
          rw [← HTO.out, ← HTX.out, all_cut okf L i, flat_cut xf L i, ← Bool.and_assoc, ← List.append_assoc]
          exact Puts.stop HP.out, HF2.out⟩
        go_wp2_with fail
        exact bodyPost_ret (P := Tryz.prog) (fn := Tryz.f204) (v := .tuple #[]) (by simp [results, Tryz.results204, go_sem]) rfl HE.out
      | false =>
        go_wp2_with fail
        refine HO2.out.mono ?_
        rintro en w3 ⟨b3, bad3, rfl, hs3, hp3, hf3⟩
        have HS3 := Lib.hid hs3
        have HP3 : Hid (Puts b bad b3 bad3 (hd && (L.take (i + 1)).all okf) (Leb.uB n ++ (L.take (i + 1)).flatMap xf)) := Lib.hid (by
          rw [HAN.out, HFN.out, ← Bool.and_assoc, ← List.append_assoc]
          exact HP.out.trans hp3)
        have HF3 := Lib.hid (HF2.out.trans hf3)
        clear hs3 hp3 hf3
        go_wp2_with fail
        go_roundw
        case rel => exact ⟨i + 1, b3, bad3, by go_num, hlt, HS3.out, HP3.out, HF3.out⟩
        case measure => simp [intOf]; omega
    · have hin : i = n := by omega
      subst hin
      have HE : Hid (WTold g b bad TO TX w (.returned (.tuple #[])) wr) := Lib.hid ⟨b', bad', rfl, HS.out, by
        have := HP.out
        rw [List.take_of_length_le (by rw [HN.out]; exact Nat.le_refl _)] at this
        rw [← HTO.out, ← HTX.out]
        exact this, HF.out⟩
      go_wp2_with fail
      exact bodyPost_end (v := .tuple #[]) (by simp [results, Tryz.results204, go_sem]) rfl HE.out
theorem wsome_Elem (okf : ElmT → Bool) (xf : ElmT → List Int) (m : Int) (K : Nat) {w0 w : World} {v : Value} {L : List ElmT} {g : Nat} {b : List Int} {bad : Bool} (hw : WS w g b bad) (hr : RowG.Row elE w0 v L) (hb : Below w0.heap.size w0 w) (hg : w0.heap.size ≤ g) (hL : L.length ≤ 100000) (h0 : 0 < L.length)
    (hrun : ∀ args W, (callFunc K args).run Tryz.prog W = .ok (.enter K args) W)
    (hone : ∀ W b' bad' p, p ∈ L → WS W g b' bad' → Below w0.heap.size w0 W → Calls Tryz.prog K #[.pointer (some ⟨g, 0, none⟩), (fun p : ElmT => .agg #[.int .i64 p.1.1.op, .int .i64 p.1.1.A, .int .i64 p.1.1.B, .int .u64 p.1.1.K, p.1.2, p.2.2]) p] W (WTold g b' bad' (okf p) (xf p) W)) :
    Calls Tryz.prog 158 #[.pointer (some ⟨g, 0, none⟩), v, .int .i64 m, .func (.func K) #[.pointer (some ⟨g, 0, none⟩)] #[]] w (WTold g b bad (decide ((L.length : Int) ≤ m) && L.all okf) (Leb.uB L.length ++ L.flatMap xf) w) := by
  have HC := Lib.hid (wlist_Elem okf xf m K hw hr hb hg hL hrun hone)
  obtain ⟨P, c, rfl⟩ := row_len hr
  obtain ⟨TO, hTO⟩ : ∃ r, (decide ((L.length : Int) ≤ m) && L.all okf) = r := ⟨_, rfl⟩
  obtain ⟨TX, hTX⟩ : ∃ r, Leb.uB L.length ++ L.flatMap xf = r := ⟨_, rfl⟩
  rw [hTO, hTX] at HC ⊢
  clear hTO hTX
  obtain ⟨n, hn⟩ : ∃ n, L.length = n := ⟨_, rfl⟩
  rw [hn] at HC h0 ⊢
  have t1 : decide ((0 : Int) < (n : Int)) = true := decide_eq_true (by omega)
  have t2 : decide (0 < n) = true := decide_eq_true h0
  clear hw hr hb hg hL hone hn h0
  go_enter Tryz.func158, Tryz.ntmps158
  go_wp2_with fail
  refine HC.out.mono ?_
  rintro en w3 ⟨b3, bad3, rfl, hs3, hp3, hf3⟩
  have HE : Hid (WTold g b bad TO TX w (.returned (.tuple #[])) w3) := Lib.hid ⟨b3, bad3, rfl, hs3, hp3, hf3⟩
  clear hs3 hp3 hf3
  go_wp2_with fail
  exact bodyPost_end (v := .tuple #[]) (by simp [results, Tryz.results158, go_sem]) rfl HE.out
end Go.Proofs.YtffegkjlgeblbaaGreatDoor.Mdl
end

section
/- The program's lists of Code, laid: walked. -/
namespace Go.Proofs.YtffegkjlgeblbaaGreatDoor.Mdl
open Go.RowKit Ints Typ Ins
set_option maxRecDepth 100000
set_option maxHeartbeats 4000000
set_option linter.unusedVariables false
theorem wlist_Code (okf : CodT → Bool) (xf : CodT → List Int) (m : Int) (K : Nat) {w0 w : World} {v : Value} {L : List CodT} {g : Nat} {b : List Int} {bad : Bool} (hw : WS w g b bad) (hr : RowG.Row elC w0 v L) (hb : Below w0.heap.size w0 w) (hg : w0.heap.size ≤ g) (hL : L.length ≤ 100000)
    (hrun : ∀ args W, (callFunc K args).run Tryz.prog W = .ok (.enter K args) W)
    (hone : ∀ W b' bad' p, p ∈ L → WS W g b' bad' → Below w0.heap.size w0 W → Calls Tryz.prog K #[.pointer (some ⟨g, 0, none⟩), (fun p : CodT => .agg #[p.1.2, p.2.2]) p] W (WTold g b' bad' (okf p) (xf p) W)) :
    Calls Tryz.prog 205 #[.pointer (some ⟨g, 0, none⟩), v, .int .i64 m, .func (.func K) #[.pointer (some ⟨g, 0, none⟩)] #[]] w (WTold g b bad (decide ((L.length : Int) ≤ m) && L.all okf) (Leb.uB L.length ++ L.flatMap xf) w) := by
  obtain ⟨P, c, rfl⟩ := row_len hr
  obtain ⟨n, hn⟩ : ∃ n, L.length = n := ⟨_, rfl⟩
  have HN := Lib.hid hn
  rw [hn] at hr hL ⊢
  have HR := Lib.hid hr
  have HBW := Lib.hid hb
  have HG := Lib.hid hg
  have HONE := Lib.hid hone
  obtain ⟨hd, hhd⟩ : ∃ r, decide ((n : Int) ≤ m) = r := ⟨_, rfl⟩
  have HWN := Lib.hid (wneed hd hw)
  have HD := Lib.hid (hw.set1 (bad || !hd))
  obtain ⟨W1, hW1⟩ : ∃ W, w.setCell ⟨g, 1, none⟩ (.bool (bad || !hd)) = W := ⟨_, rfl⟩
  have HFR : Hid (WFr g w W1) := Lib.hid (by rw [← hW1]; exact (WFr.refl g w).setCell _ _)
  rw [hW1] at HD HWN
  rw [hhd]
  obtain ⟨TO, hTO⟩ : ∃ r, (hd && L.all okf) = r := ⟨_, rfl⟩
  obtain ⟨TX, hTX⟩ : ∃ r, Leb.uB n ++ L.flatMap xf = r := ⟨_, rfl⟩
  have HTO := Lib.hid hTO
  have HTX := Lib.hid hTX
  rw [hTO, hTX]
  clear hW1 hw hr hb hg hone hn hTO hTX
  go_enter Tryz.func205, Tryz.ntmps205
  go_wp2_with fail
  refine HWN.out.mono ?_
  rintro en w1 ⟨rfl, hw1⟩
  obtain rfl : W1 = w1 := hw1.symm
  go_wp2_with fail
  refine (wnum (n : Int) (by omega) HD.out).mono ?_
  rintro en w2 ⟨b2, bad2, rfl, hs2, hp2, hf2⟩
  have HS2 := Lib.hid hs2
  have HP2 : Hid (Puts b bad b2 bad2 hd (Leb.uB n)) := Lib.hid (Puts.after (by rw [okU_nat hL, Int.toNat_natCast] at hp2; exact hp2))
  have HF2 := Lib.hid (HFR.out.trans hf2)
  clear hs2 hp2 hf2 hhd
  go_wp2_with fail
  go_loopw [22] (fun i' wr => ∃ (i : Nat) (b' : List Int) (bad' : Bool), i' = .int .i64 (i : Int) ∧ i ≤ n ∧ WS wr g b' bad' ∧ Puts b bad b' bad' (hd && (L.take i).all okf) (Leb.uB n ++ (L.take i).flatMap xf) ∧ WFr g w wr) (fun i' _ => n - (intOf i').toNat)
  case atStart => exact ⟨0, b2, bad2, by go_num, by omega, HS2.out, by simpa using HP2.out, HF2.out⟩
  case round =>
    obtain ⟨i, b', bad', rfl, hi, hs, hp, hf⟩ := hrel
    have HS := Lib.hid hs
    have HP := Lib.hid hp
    have HF := Lib.hid hf
    clear hs hp hf HS2 HP2 HF2
    by_cases hlt : i < n
    · obtain ⟨p, hp⟩ : ∃ p, L[i]? = some p := ⟨_, List.getElem?_eq_getElem (by rw [HN.out]; exact hlt)⟩
      have HBR : Hid (Below w0.heap.size w0 wr) := Lib.hid (HBW.out.trans (HF.out.below.mono HG.out))
      obtain ⟨g1, off, rfl, hg1, hA, hok⟩ := (HR.out.keep HBR.out).at_ hp
      rw [show (elC.s) = 2 from rfl] at hA
      have q0 := hA 0 p.1.2 rfl
      have q1 := hA 1 p.2.2 rfl
      rw [Nat.add_zero] at q0
      have HPM := Lib.hid (List.mem_of_getElem? hp)
      have HAN := Lib.hid (all_next okf hp)
      have HFN := Lib.hid (flat_next xf hp)
      have i1 : (0 : Int) ≤ (i : Int) := by omega
      have i2 : (i : Int) < (n : Int) := by omega
      have hw1 : IntKind.i64.wrap ((i : Int) + 1) = (i : Int) + 1 := IntWalk.i64_in _ (by omega)
      clear hA hp hg1
      obtain ⟨⟨x0, c0⟩, ⟨x1, c1⟩⟩ := p
      obtain ⟨⟨⟨A0, k0, e0, _⟩, _⟩, ⟨⟨A1, k1, e1, _⟩, _⟩⟩ := hok
      simp only at e0 e1
      subst e0 e1
      obtain ⟨W2, hW2⟩ : ∃ W, wr.alloc (.cells #[.slice A0 x0.length k0, .slice A1 x1.length k1] 90) = W := ⟨_, rfl⟩
      have HA2 : Hid (Below wr.heap.size wr W2) := Lib.hid (by rw [← hW2]; exact (Below.refl _ _).alloc (Nat.le_refl _) _)
      have HS2 : Hid (WS W2 g b' bad') := Lib.hid (HS.out.keep HA2.out)
      have HF2 : Hid (WFr g w W2) := Lib.hid (HF.out.trans (WFr.of_below HA2.out HS.out.lt))
      have HO2 := Lib.hid (HONE.out W2 b' bad' _ HPM.out HS2.out (HBR.out.trans (HA2.out.mono HBR.out.size)))
      rw [← hW2] at HS2 HF2 HO2
      obtain ⟨⟨Pb, cb, h1, _⟩, _⟩ := id HS.out
      have d1 := Lib.cell?_alloc_some (.cells #[.slice A0 x0.length k0, .slice A1 x1.length k1] 90) (Sec.cells_at h1 1).1
      clear h1 hW2
      cases bad' with
      | true =>
        have HE : Hid (WTold g b bad TO TX w (.returned (.tuple #[])) (wr.alloc (.cells #[.slice A0 x0.length k0, .slice A1 x1.length k1] 90))) := Lib.hid ⟨b', true, rfl, HS2.out, by
          rw [← HTO.out, ← HTX.out, all_cut okf L i, flat_cut xf L i, ← Bool.and_assoc, ← List.append_assoc]
          exact Puts.stop HP.out, HF2.out⟩
        go_wp2_with fail
        exact bodyPost_ret (P := Tryz.prog) (fn := Tryz.f205) (v := .tuple #[]) (by simp [results, Tryz.results205, go_sem]) rfl HE.out
      | false =>
        go_wp2_with fail
        refine HO2.out.mono ?_
        rintro en w3 ⟨b3, bad3, rfl, hs3, hp3, hf3⟩
        have HS3 := Lib.hid hs3
        have HP3 : Hid (Puts b bad b3 bad3 (hd && (L.take (i + 1)).all okf) (Leb.uB n ++ (L.take (i + 1)).flatMap xf)) := Lib.hid (by
          rw [HAN.out, HFN.out, ← Bool.and_assoc, ← List.append_assoc]
          exact HP.out.trans hp3)
        have HF3 := Lib.hid (HF2.out.trans hf3)
        clear hs3 hp3 hf3
        go_wp2_with fail
        go_roundw
        case rel => exact ⟨i + 1, b3, bad3, by go_num, hlt, HS3.out, HP3.out, HF3.out⟩
        case measure => simp [intOf]; omega
    · have hin : i = n := by omega
      subst hin
      have HE : Hid (WTold g b bad TO TX w (.returned (.tuple #[])) wr) := Lib.hid ⟨b', bad', rfl, HS.out, by
        have := HP.out
        rw [List.take_of_length_le (by rw [HN.out]; exact Nat.le_refl _)] at this
        rw [← HTO.out, ← HTX.out]
        exact this, HF.out⟩
      go_wp2_with fail
      exact bodyPost_end (v := .tuple #[]) (by simp [results, Tryz.results205, go_sem]) rfl HE.out
theorem wsome_Code (okf : CodT → Bool) (xf : CodT → List Int) (m : Int) (K : Nat) {w0 w : World} {v : Value} {L : List CodT} {g : Nat} {b : List Int} {bad : Bool} (hw : WS w g b bad) (hr : RowG.Row elC w0 v L) (hb : Below w0.heap.size w0 w) (hg : w0.heap.size ≤ g) (hL : L.length ≤ 100000) (h0 : 0 < L.length)
    (hrun : ∀ args W, (callFunc K args).run Tryz.prog W = .ok (.enter K args) W)
    (hone : ∀ W b' bad' p, p ∈ L → WS W g b' bad' → Below w0.heap.size w0 W → Calls Tryz.prog K #[.pointer (some ⟨g, 0, none⟩), (fun p : CodT => .agg #[p.1.2, p.2.2]) p] W (WTold g b' bad' (okf p) (xf p) W)) :
    Calls Tryz.prog 160 #[.pointer (some ⟨g, 0, none⟩), v, .int .i64 m, .func (.func K) #[.pointer (some ⟨g, 0, none⟩)] #[]] w (WTold g b bad (decide ((L.length : Int) ≤ m) && L.all okf) (Leb.uB L.length ++ L.flatMap xf) w) := by
  have HC := Lib.hid (wlist_Code okf xf m K hw hr hb hg hL hrun hone)
  obtain ⟨P, c, rfl⟩ := row_len hr
  obtain ⟨TO, hTO⟩ : ∃ r, (decide ((L.length : Int) ≤ m) && L.all okf) = r := ⟨_, rfl⟩
  obtain ⟨TX, hTX⟩ : ∃ r, Leb.uB L.length ++ L.flatMap xf = r := ⟨_, rfl⟩
  rw [hTO, hTX] at HC ⊢
  clear hTO hTX
  obtain ⟨n, hn⟩ : ∃ n, L.length = n := ⟨_, rfl⟩
  rw [hn] at HC h0 ⊢
  have t1 : decide ((0 : Int) < (n : Int)) = true := decide_eq_true (by omega)
  have t2 : decide (0 < n) = true := decide_eq_true h0
  clear hw hr hb hg hL hone hn h0
  go_enter Tryz.func160, Tryz.ntmps160
  go_wp2_with fail
  refine HC.out.mono ?_
  rintro en w3 ⟨b3, bad3, rfl, hs3, hp3, hf3⟩
  have HE : Hid (WTold g b bad TO TX w (.returned (.tuple #[])) w3) := Lib.hid ⟨b3, bad3, rfl, hs3, hp3, hf3⟩
  clear hs3 hp3 hf3
  go_wp2_with fail
  exact bodyPost_end (v := .tuple #[]) (by simp [results, Tryz.results160, go_sem]) rfl HE.out
end Go.Proofs.YtffegkjlgeblbaaGreatDoor.Mdl
end
