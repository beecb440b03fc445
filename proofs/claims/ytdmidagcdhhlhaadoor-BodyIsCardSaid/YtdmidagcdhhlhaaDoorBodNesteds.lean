/- Several parts in one text. -/
import Derived.Test.YtdmidagcdhhlhaaDoorBodTakeW
import Derived.Test.YtdmidagcdhhlhaaDoorBodTgts
import Derived.WalkMore
/- What is gone over, and nested: the program's, walked. -/
namespace Go.Proofs.YtdmidagcdhhlhaaDoor.Bod
open Go.RowKit Ints Typ Ins
set_option maxRecDepth 100000
set_option maxHeartbeats 2000000
set_option linter.unusedVariables false
theorem tk_lens {op : Int} {n n' : Nst} (h : tk op n = some n') : n'.M.length = n.M.length + 1 ∧ n'.S.length ≤ n.S.length + 1 := by
  have hl : (tk1 op n).M.length = n.M.length + 1 := by simp [tk1]
  unfold tk at h
  split at h
  · obtain rfl := Option.some.inj h
    exact ⟨hl, by simp⟩
  · split at h
    · unfold tkTurn at h
      split at h
      · cases h
      · split at h
        · cases h
        · obtain rfl := Option.some.inj h
          exact ⟨by simp [hl], by simp [tk1]⟩
    · split at h
      · unfold tkEnd at h
        split at h
        · cases h
        · rename_i x hx
          obtain rfl := Option.some.inj h
          refine ⟨?_, by simp [tk1]; omega⟩
          show (endM n.M.length x.2 (tk1 op n).M).length = _
          unfold endM
          split <;> simp [hl]
      · obtain rfl := Option.some.inj h
        exact ⟨hl, by simp [tk1]⟩
theorem nst_lens {ops : List Int} : ∀ {p : Nat} {n : Nst}, nst ops p = some n → n.M.length = p ∧ n.S.length ≤ p
  | 0, n, h => by
    obtain rfl := Option.some.inj h
    exact ⟨rfl, Nat.le_refl _⟩
  | p + 1, n, h => by
    have e : nst ops (p + 1) = (nst ops p).bind fun n => tk (ops.getD p 0) n := rfl
    rw [e] at h
    cases h0 : nst ops p with
    | none => rw [h0] at h; cases h
    | some n0 =>
      rw [h0] at h
      have ih := nst_lens h0
      have := tk_lens h
      omega
theorem nst_stop {ops : List Int} {i : Nat} (h : nst ops i = none) : ∀ j, i ≤ j → nst ops j = none
  | 0, hj => by obtain rfl : i = 0 := by omega
                cases h
  | j + 1, hj => by
    by_cases e : i = j + 1
    · subst e; exact h
    · have e2 : nst ops (j + 1) = (nst ops j).bind fun n => tk (ops.getD j 0) n := rfl
      rw [e2, nst_stop h j (by omega)]
      rfl
theorem own_far {w : World} {B e s n : Nat} {v : Value} {xs : List Value} (h : w.ownsRow B e s v n xs) {p : Addr} (hp : p.block < B) (u : Value) : (w.setCell p u).ownsRow B e s v n xs :=
  own_stay h fun k hk => Below.heap_setCell _ _ _ _ (by have := (World.ownsRow.lt h k hk).1; omega)
/-- What goneOver tells. -/
def GTold (l : List (Ins × Value)) (w : World) (e : Ending) (w' : World) : Prop := ∃ vM vD vS n1, e = .returned (.tuple #[.agg #[vM, vD, vS], .bool (nst (opsL l) l.length).isSome]) ∧ (∀ m, nst (opsL l) l.length = some m → n1 = m) ∧ OwnP 52 w' w.heap.size vM n1.M ∧ OwnI w' w.heap.size vD n1.D ∧ OwnP 71 w' w.heap.size vS (prs n1.S) ∧ Below w.heap.size w w'
theorem heap_new (w : World) (o : Obj) : (w.alloc o).heap[w.heap.size]? = some o := by
  show (w.heap.push o)[w.heap.size]? = some o
  simp
theorem size_new (w : World) (o : Obj) : (w.alloc o).heap.size = w.heap.size + 1 := by
  show (w.heap.push o).size = _
  simp
theorem NAt.new (w : World) : NAt (w.alloc (.cells #[.slice none 0 0, .slice none 0 0, .slice none 0 0] 56)) w.heap.size w.heap.size (.slice none 0 0) (.slice none 0 0) (.slice none 0 0) ⟨[], [], []⟩ :=
  ⟨Nat.le_refl _, heap_new _ _, ownP_nil _ _ _, ownI_nil _ _, ownP_nil _ _ _⟩
theorem gone_any {l : List (Ins × Value)} {A : Option Addr} {n c : Nat} {w : World} (hT : KTab w) (hn : l.length = n) (hbig : n ≤ 80000) (hr : InRow w (.slice A n c) l) :
    Calls Tryd.prog 47 #[.slice A n c] w (GTold l w) := by
  have HR := Lib.hid hr
  have HN := Lib.hid hn
  have HT := Lib.hid hT
  clear hr hn hT
  go_enter Tryd.func47, Tryd.ntmps47
  go_wp2_with fail
  have HA := Lib.hid ((Below.refl w.heap.size w).alloc (Nat.le_refl _) (.cells #[.slice none 0 0, .slice none 0 0, .slice none 0 0] 56))
  have HRES : Hid ((w.alloc (.cells #[.slice none 0 0, .slice none 0 0, .slice none 0 0] 56)).heap[w.heap.size]? = some (.cells #[.slice none 0 0, .slice none 0 0, .slice none 0 0] 56 (0, 0))) := heap_new _ _
  have HSZ : Hid ((w.alloc (.cells #[.slice none 0 0, .slice none 0 0, .slice none 0 0] 56)).heap.size = w.heap.size + 1) := size_new _ _
  have HNEW := Lib.hid (NAt.new (w.alloc (.cells #[.slice none 0 0, .slice none 0 0, .slice none 0 0] 56)))
  have HB0 := Lib.hid ((Below.refl (w.alloc (.cells #[.slice none 0 0, .slice none 0 0, .slice none 0 0] 56)).heap.size (w.alloc (.cells #[.slice none 0 0, .slice none 0 0, .slice none 0 0] 56))).alloc (Nat.le_refl _) (.cells #[.slice none 0 0, .slice none 0 0, .slice none 0 0] 56))
  have HIR := Lib.hid ((HR.out.keep (HA.out.mono (Nat.le_refl _))))
  have HT0 := Lib.hid (HT.out.keep HA.out)
  clear HR HT
  generalize (w.alloc (.cells #[.slice none 0 0, .slice none 0 0, .slice none 0 0] 56)) = w0 at *
  obtain ⟨r, hr⟩ : ∃ r, w.heap.size = r := ⟨_, rfl⟩
  have HR0 := Lib.hid hr
  rw [hr] at HRES HSZ ⊢
  have HNEW2 : Hid (∀ q, q = w0.heap.size → NAt (w0.alloc (.cells #[.slice none 0 0, .slice none 0 0, .slice none 0 0] 56)) w0.heap.size q (.slice none 0 0) (.slice none 0 0) (.slice none 0 0) ⟨[], [], []⟩) := fun q hq => hq ▸ HNEW.out
  clear hr
  go_loopw [9] (fun i' wr => ∃ (i : Nat) (vM vD vS : Value) (n1 : Nst), i' = .int .i64 (i : Int) ∧ i ≤ n ∧ nst (opsL l) i = some n1 ∧ NAt wr w0.heap.size (r + 1) vM vD vS n1 ∧ Below w0.heap.size w0 wr) (fun i' _ => n - (intOf i').toNat)
  case atStart => exact ⟨0, _, _, _, _, by go_num, Nat.zero_le _, rfl, HNEW2.out _ HSZ.out.symm, HB0.out⟩
  case round =>
    clear HNEW HNEW2 HB0
    obtain ⟨i, vM, vD, vS, n1, rfl, hi, hn1, hN, hB⟩ := hrel
    have HN1 := Lib.hid hN
    have HB1 := Lib.hid hB
    have HNS := Lib.hid hn1
    have hRS := (hB.block r (by have := HSZ.out; omega)).trans HRES.out
    have HRW := Lib.hid hRS
    clear hN hB hn1 hRS
    by_cases hlt : i < n
    · obtain ⟨y, hy⟩ : ∃ y, l[i]? = some y := ⟨_, List.getElem?_eq_getElem (by rw [HN.out]; exact hlt)⟩
      obtain ⟨g, off, rfl, hC, hO⟩ := (HIR.out.keep HB1.out).at_ hy
      have HG := Lib.hid (opsL_get hy)
      obtain ⟨PL, cL, hpo, _⟩ := id hO.1
      obtain ⟨x, ov⟩ := y
      simp only at hpo
      obtain ⟨nL, hnL⟩ : ∃ nL, x.L.length = nL := ⟨_, rfl⟩
      rw [hnL] at hpo
      subst hpo
      clear hy hnL hO
      obtain ⟨q1, q2, q3, q4, q5⟩ := hC
      simp only at q1 q2 q3 q4 q5
      have hin1 : (0 : Int) ≤ (i : Int) := by omega
      have hin2 : (i : Int) < (n : Int) := by omega
      have hw1 : IntKind.i64.wrap ((i : Int) + 1) = (i : Int) + 1 := IntWalk.i64_in _ (by omega)
      have HLN := Lib.hid (nst_lens HNS.out)
      have HOK := Lib.hid (nst_ok (opsL l) HNS.out)
      have HSTEP : Hid (nst (opsL l) (i + 1) = tk x.op n1) := by
        show _ = _
        have e : nst (opsL l) (i + 1) = (nst (opsL l) i).bind fun n => tk ((opsL l).getD i 0) n := rfl
        rw [e, HNS.out, HG.out]
        rfl
      have HWL : Hid (w0.heap.size ≤ wr.heap.size) := HB1.out.size
      go_wp2_with fail
      have HB2 := Lib.hid (HB1.out.alloc HWL.out (.cells #[.int .i64 x.op, .int .i64 x.A, .int .i64 x.B, .int .u64 x.K, .slice PL nL cL] 50))
      have HN2 := Lib.hid (HN1.out.keep ((Below.refl wr.heap.size wr).alloc (Nat.le_refl _) (.cells #[.int .i64 x.op, .int .i64 x.A, .int .i64 x.B, .int .u64 x.K, .slice PL nL cL] 50)))
      clear q1 q2 q3 q4 q5
      refine (ptake_any x.op HT0.out HB2.out HN2.out HOK.out (by have := HLN.out; omega) (by have := HLN.out; omega)).mono ?_
      rintro en w3 ⟨vM3, vD3, vS3, n3, rfl, hr3, N3, F3, B3⟩
      have HN3 := Lib.hid N3
      have HB3 := Lib.hid (HB2.out.trans B3)
      have HR3 := Lib.hid hr3
      clear hr3 N3 F3 B3
      cases htk : tk x.op n1 with
      | none =>
        have HNO : Hid (nst (opsL l) l.length = none) := by
          refine nst_stop (i := i + 1) ?_ _ (by rw [HN.out]; exact hlt)
          rw [HSTEP.out, htk]
        clear htk
        obtain ⟨Q0, k0, e0, rfl⟩ : ∃ P k c, vM3 = .slice P k c := by
          obtain ⟨P, c, e⟩ := OwnP.form HN3.out.m
          exact ⟨P, _, c, e⟩
        obtain ⟨Q1, k1, e1, rfl⟩ : ∃ P k c, vD3 = .slice P k c := by
          obtain ⟨P, c, e⟩ := OwnI.form HN3.out.d
          exact ⟨P, _, c, e⟩
        obtain ⟨Q2, k2, e2, rfl⟩ : ∃ P k c, vS3 = .slice P k c := by
          obtain ⟨P, c, e⟩ := OwnP.form HN3.out.s
          exact ⟨P, _, c, e⟩
        obtain ⟨c0, c1, c2, _, _, _⟩ := HN3.out.cells
        have hRS := (HB3.out.block r (by have := HSZ.out; omega)).trans HRES.out
        have z0 : w3.cell? ⟨r, 0, none⟩ = some (.slice none 0 0) := (cells_at hRS 0).1
        have y0 : w3.frozen? ⟨r, 0, none⟩ = false := (cells_at hRS 0).2
        have z1 : w3.cell? ⟨r, 1, none⟩ = some (.slice none 0 0) := (cells_at hRS 1).1
        have y1 : w3.frozen? ⟨r, 1, none⟩ = false := (cells_at hRS 1).2
        have z2 : w3.cell? ⟨r, 2, none⟩ = some (.slice none 0 0) := (cells_at hRS 2).1
        have y2 : w3.frozen? ⟨r, 2, none⟩ = false := (cells_at hRS 2).2
        clear hRS
        have HLO : Hid (w.heap.size ≤ w0.heap.size) := HA.out.size
        have HRR : Hid (r < w0.heap.size) := by have := HSZ.out; show _ < _; omega
        have HRQ : Hid (w.heap.size ≤ r) := Nat.le_of_eq HR0.out
        go_wp2_with fail
        refine bodyPost_ret (v := .tuple #[.agg #[.slice Q0 k0 e0, .slice Q1 k1 e1, .slice Q2 k2 e2], .bool false]) (by simp [results, Tryd.results47, go_sem, z0, z1, z2]) rfl ⟨_, _, _, n3, by rw [HNO.out]; rfl, (by rw [HNO.out]; exact fun m hm => by cases hm), ?_, ?_, ?_, ?_⟩
        · exact own_low (own_far (own_far (own_far HN3.out.m HRR.out _) HRR.out _) HRR.out _) HLO.out
        · exact own_low (own_far (own_far (own_far HN3.out.d HRR.out _) HRR.out _) HRR.out _) HLO.out
        · exact own_low (own_far (own_far (own_far HN3.out.s HRR.out _) HRR.out _) HRR.out _) HLO.out
        · exact (((HA.out.trans (HB3.out.mono HLO.out)).setCell (p := ⟨r, 0, none⟩) HRQ.out _).setCell (p := ⟨r, 1, none⟩) HRQ.out _).setCell (p := ⟨r, 2, none⟩) HRQ.out _
      | some n4 =>
        obtain rfl := HR3.out _ htk
        have HNX : Hid (nst (opsL l) (i + 1) = some n3) := HSTEP.out.trans htk
        clear htk
        go_wp2_with fail
        go_roundw
        case rel => exact ⟨i + 1, _, _, _, _, by go_num, hlt, HNX.out, HN3.out, HB3.out⟩
        case measure => simp [intOf]; omega
    · have hin : i = n := by omega
      subst hin
      have HNO : Hid (nst (opsL l) l.length = some n1) := by
        show _ = _
        rw [HN.out]
        exact HNS.out
      have HN3 := HN1
      have HB3 := HB1
      obtain ⟨Q0, k0, e0, rfl⟩ : ∃ P k c, vM = .slice P k c := by
        obtain ⟨P, c, e⟩ := OwnP.form HN3.out.m
        exact ⟨P, _, c, e⟩
      obtain ⟨Q1, k1, e1, rfl⟩ : ∃ P k c, vD = .slice P k c := by
        obtain ⟨P, c, e⟩ := OwnI.form HN3.out.d
        exact ⟨P, _, c, e⟩
      obtain ⟨Q2, k2, e2, rfl⟩ : ∃ P k c, vS = .slice P k c := by
        obtain ⟨P, c, e⟩ := OwnP.form HN3.out.s
        exact ⟨P, _, c, e⟩
      obtain ⟨c0, c1, c2, _, _, _⟩ := HN3.out.cells
      have hRS := HRW.out
      have z0 : wr.cell? ⟨r, 0, none⟩ = some (.slice none 0 0) := (cells_at hRS 0).1
      have y0 : wr.frozen? ⟨r, 0, none⟩ = false := (cells_at hRS 0).2
      have z1 : wr.cell? ⟨r, 1, none⟩ = some (.slice none 0 0) := (cells_at hRS 1).1
      have y1 : wr.frozen? ⟨r, 1, none⟩ = false := (cells_at hRS 1).2
      have z2 : wr.cell? ⟨r, 2, none⟩ = some (.slice none 0 0) := (cells_at hRS 2).1
      have y2 : wr.frozen? ⟨r, 2, none⟩ = false := (cells_at hRS 2).2
      clear hRS
      have HLO : Hid (w.heap.size ≤ w0.heap.size) := HA.out.size
      have HRR : Hid (r < w0.heap.size) := by have := HSZ.out; show _ < _; omega
      have HRQ : Hid (w.heap.size ≤ r) := Nat.le_of_eq HR0.out
      go_wp2_with fail
      refine bodyPost_ret (v := .tuple #[.agg #[.slice Q0 k0 e0, .slice Q1 k1 e1, .slice Q2 k2 e2], .bool true]) (by simp [results, Tryd.results47, go_sem, z0, z1, z2]) rfl ⟨_, _, _, n1, by rw [HNO.out]; rfl, (by rw [HNO.out]; exact fun m hm => Option.some.inj hm), ?_, ?_, ?_, ?_⟩
      · exact own_low (own_far (own_far (own_far HN3.out.m HRR.out _) HRR.out _) HRR.out _) HLO.out
      · exact own_low (own_far (own_far (own_far HN3.out.d HRR.out _) HRR.out _) HRR.out _) HLO.out
      · exact own_low (own_far (own_far (own_far HN3.out.s HRR.out _) HRR.out _) HRR.out _) HLO.out
      · exact (((HA.out.trans (HB3.out.mono HLO.out)).setCell (p := ⟨r, 0, none⟩) HRQ.out _).setCell (p := ⟨r, 1, none⟩) HRQ.out _).setCell (p := ⟨r, 2, none⟩) HRQ.out _
end Go.Proofs.YtdmidagcdhhlhaaDoor.Bod

/- What is nested, by the program: nested, Matches, Depths, walked. -/
namespace Go.Proofs.YtdmidagcdhhlhaaDoor.Bod
open Go.RowKit Ints Typ Ins
set_option maxRecDepth 100000
set_option maxHeartbeats 2000000
set_option linter.unusedVariables false
/-- What nested tells. -/
def PNest (l : List (Ins × Value)) (w : World) (e : Ending) (w' : World) : Prop :=
  (match dM (opsL l) with
    | none => e = .returned (.tuple #[.agg #[.slice none 0 0, .slice none 0 0, .slice none 0 0], .bool false])
    | some ms => ∃ vM vD vS, e = .returned (.tuple #[.agg #[vM, vD, vS], .bool true]) ∧ OwnP 52 w' w.heap.size vM ms ∧ OwnI w' w.heap.size vD (depL (opsL l) l.length) ∧ OwnP 71 w' w.heap.size vS []) ∧ Below w.heap.size w w'
theorem dM_not {ops : List Int} (h : ¬ Nested ops) : dM ops = none := by
  cases hd : dM ops with
  | none => rfl
  | some ms => exact absurd (dM_nested hd) h
theorem nested_any {l : List (Ins × Value)} {A : Option Addr} {n c : Nat} {w : World} (hT : KTab w) (hn : l.length = n) (hbig : n ≤ 80000) (hr : InRow w (.slice A n c) l) :
    Calls Tryd.prog 28 #[.slice A n c] w (PNest l w) := by
  have HR := Lib.hid hr
  have HN := Lib.hid hn
  have HT := Lib.hid hT
  clear hr hn hT
  go_enter Tryd.func28, Tryd.ntmps28
  go_wp2_with fail
  have HA := Lib.hid ((Below.refl w.heap.size w).alloc (Nat.le_refl _) (.cells #[.slice none 0 0, .slice none 0 0, .slice none 0 0] 56))
  have HRES : Hid ((w.alloc (.cells #[.slice none 0 0, .slice none 0 0, .slice none 0 0] 56)).heap[w.heap.size]? = some (.cells #[.slice none 0 0, .slice none 0 0, .slice none 0 0] 56 (0, 0))) := heap_new _ _
  have HSZ : Hid ((w.alloc (.cells #[.slice none 0 0, .slice none 0 0, .slice none 0 0] 56)).heap.size = w.heap.size + 1) := size_new _ _
  have HIR := Lib.hid (HR.out.keep HA.out)
  have HT0 := Lib.hid (HT.out.keep HA.out)
  clear HR HT
  generalize (w.alloc (.cells #[.slice none 0 0, .slice none 0 0, .slice none 0 0] 56)) = w0 at *
  obtain ⟨r, hr⟩ : ∃ r, w.heap.size = r := ⟨_, rfl⟩
  have HR0 := Lib.hid hr
  rw [hr] at HRES HSZ ⊢
  clear hr
  refine (gone_any HT0.out HN.out hbig HIR.out).mono ?_
  rintro e w2 ⟨vM, vD, vS, n1, rfl, hn1, oM, oD, oS, hb⟩
  have HB2 := Lib.hid hb
  have HN1 := Lib.hid hn1
  obtain ⟨P0, e0, hv0⟩ := OwnP.form oM
  obtain ⟨P1, e1, hv1⟩ := OwnI.form oD
  obtain ⟨P2, e2, hv2⟩ := OwnP.form oS
  rw [prs_len] at hv2
  obtain ⟨k0, hk0⟩ : ∃ k, n1.M.length = k := ⟨_, rfl⟩
  obtain ⟨k1, hk1⟩ : ∃ k, n1.D.length = k := ⟨_, rfl⟩
  obtain ⟨k2, hk2⟩ : ∃ k, n1.S.length = k := ⟨_, rfl⟩
  rw [hk0] at hv0
  rw [hk1] at hv1
  rw [hk2] at hv2
  subst hv0 hv1 hv2
  have HK2 := Lib.hid hk2
  have HLO : Hid (w.heap.size ≤ w0.heap.size) := HA.out.size
  have HRR : Hid (r < w0.heap.size) := by have := HSZ.out; show _ < _; omega
  have HRQ : Hid (w.heap.size ≤ r) := Nat.le_of_eq HR0.out
  have HB3 := Lib.hid (hb.alloc hb.size (.cells #[.slice P0 k0 e0, .slice P1 k1 e1, .slice P2 k2 e2] 56))
  have HOM := Lib.hid (World.ownsRow.alloc oM (.cells #[.slice P0 k0 e0, .slice P1 k1 e1, .slice P2 k2 e2] 56))
  have HOD := Lib.hid (World.ownsRow.alloc oD (.cells #[.slice P0 k0 e0, .slice P1 k1 e1, .slice P2 k2 e2] 56))
  have HOS := Lib.hid (World.ownsRow.alloc oS (.cells #[.slice P0 k0 e0, .slice P1 k1 e1, .slice P2 k2 e2] 56))
  have hRS := (HB3.out.block r HRR.out).trans HRES.out
  have z0 : (w2.alloc (.cells #[.slice P0 k0 e0, .slice P1 k1 e1, .slice P2 k2 e2] 56)).cell? ⟨r, 0, none⟩ = some (.slice none 0 0) := (cells_at hRS 0).1
  have y0 : (w2.alloc (.cells #[.slice P0 k0 e0, .slice P1 k1 e1, .slice P2 k2 e2] 56)).frozen? ⟨r, 0, none⟩ = false := (cells_at hRS 0).2
  have z1 : (w2.alloc (.cells #[.slice P0 k0 e0, .slice P1 k1 e1, .slice P2 k2 e2] 56)).cell? ⟨r, 1, none⟩ = some (.slice none 0 0) := (cells_at hRS 1).1
  have y1 : (w2.alloc (.cells #[.slice P0 k0 e0, .slice P1 k1 e1, .slice P2 k2 e2] 56)).frozen? ⟨r, 1, none⟩ = false := (cells_at hRS 1).2
  have z2 : (w2.alloc (.cells #[.slice P0 k0 e0, .slice P1 k1 e1, .slice P2 k2 e2] 56)).cell? ⟨r, 2, none⟩ = some (.slice none 0 0) := (cells_at hRS 2).1
  have y2 : (w2.alloc (.cells #[.slice P0 k0 e0, .slice P1 k1 e1, .slice P2 k2 e2] 56)).frozen? ⟨r, 2, none⟩ = false := (cells_at hRS 2).2
  clear hRS hb hn1 oM oD oS hk0 hk1 hk2
  have HBW := Lib.hid (HA.out.trans (HB3.out.mono HLO.out))
  cases hq : nst (opsL l) l.length with
  | none =>
    have HD : Hid (dM (opsL l) = none) := dM_not (nst_none (by rw [opsL_len]; exact hq))
    clear hq
    go_wp2_with fail
    refine bodyPost_ret (v := .tuple #[.agg #[.slice none 0 0, .slice none 0 0, .slice none 0 0], .bool false]) (by simp [results, Tryd.results28, go_sem, z0, z1, z2]) rfl ⟨by rw [HD.out], ?_⟩
    exact ((HBW.out.setCell (p := ⟨r, 0, none⟩) HRQ.out _).setCell (p := ⟨r, 1, none⟩) HRQ.out _).setCell (p := ⟨r, 2, none⟩) HRQ.out _
  | some m1 =>
    obtain rfl := HN1.out _ hq
    cases k2 with
    | succ k2 =>
      have HD : Hid (dM (opsL l) = none) := dM_not (fun hN => by
        have h1 := (nst_nested (ops := opsL l) (n := n1) (by rw [opsL_len]; exact hq)).2 hN
        have h2 := HK2.out
        rw [h1] at h2
        cases h2)
      have t1 : decide ((0 : Int) < ((k2 + 1 : Nat) : Int)) = true := decide_eq_true (by omega)
      have t2 : decide ((0 : Int) < (k2 : Int) + 1) = true := decide_eq_true (by omega)
      clear hq
      go_wp2_with fail
      refine bodyPost_ret (v := .tuple #[.agg #[.slice none 0 0, .slice none 0 0, .slice none 0 0], .bool false]) (by simp [results, Tryd.results28, go_sem, z0, z1, z2]) rfl ⟨by rw [HD.out], ?_⟩
      exact ((HBW.out.setCell (p := ⟨r, 0, none⟩) HRQ.out _).setCell (p := ⟨r, 1, none⟩) HRQ.out _).setCell (p := ⟨r, 2, none⟩) HRQ.out _
    | zero =>
      have hN : Nested (opsL l) := (nst_nested (ops := opsL l) (n := n1) (by rw [opsL_len]; exact hq)).1 (List.length_eq_zero_iff.1 HK2.out)
      obtain ⟨ms, hms, hall⟩ := nst_all hN
      rw [opsL_len] at hall
      have hall := Option.some.inj (hq.symm.trans hall)
      subst hall
      have HD := Lib.hid hms
      clear hq hN hms
      go_wp2_with fail
      refine bodyPost_ret (v := .tuple #[.agg #[.slice P0 k0 e0, .slice P1 k1 e1, .slice P2 0 e2], .bool true]) (by simp [results, Tryd.results28, go_sem, z0, z1, z2]) rfl ⟨?_, ?_⟩
      · rw [HD.out]
        refine ⟨_, _, _, rfl, ?_, ?_, ?_⟩
        · exact own_low (own_far (own_far (own_far HOM.out HRR.out _) HRR.out _) HRR.out _) HLO.out
        · exact own_low (own_far (own_far (own_far HOD.out HRR.out _) HRR.out _) HRR.out _) HLO.out
        · exact own_low (own_far (own_far (own_far HOS.out HRR.out _) HRR.out _) HRR.out _) HLO.out
      · exact ((HBW.out.setCell (p := ⟨r, 0, none⟩) HRQ.out _).setCell (p := ⟨r, 1, none⟩) HRQ.out _).setCell (p := ⟨r, 2, none⟩) HRQ.out _
/-- What Matches tells. -/
def PMat (l : List (Ins × Value)) (w : World) (e : Ending) (w' : World) : Prop :=
  (match dM (opsL l) with
    | none => e = .returned (.tuple #[.slice none 0 0, .bool false])
    | some ms => ∃ vM, e = .returned (.tuple #[vM, .bool true]) ∧ OwnP 52 w' w.heap.size vM ms) ∧ Below w.heap.size w w'
theorem matches_any {l : List (Ins × Value)} {A : Option Addr} {n c : Nat} {w : World} (hT : KTab w) (hn : l.length = n) (hbig : n ≤ 80000) (hr : InRow w (.slice A n c) l) :
    Calls Tryd.prog 11 #[.slice A n c] w (PMat l w) := by
  have HC := Lib.hid (nested_any hT hn hbig hr)
  clear hT hn hr
  go_enter Tryd.func11, Tryd.ntmps11
  go_wp2_with fail
  refine HC.out.mono ?_
  rintro e w1 ⟨hres, hb⟩
  have HB := Lib.hid hb
  clear HC hb
  cases hd : dM (opsL l) with
  | none =>
    rw [hd] at hres
    obtain rfl := hres
    have HD := Lib.hid hd
    clear hd
    go_wp2_with fail
    exact bodyPost_ret (v := .tuple #[.slice none 0 0, .bool false]) (by simp [results, Tryd.results11, go_sem]) rfl ⟨by rw [HD.out], HB.out.alloc HB.out.size _⟩
  | some ms =>
    rw [hd] at hres
    obtain ⟨vM, vD, vS, rfl, oM, oD, oS⟩ := hres
    have HO := Lib.hid oM
    obtain ⟨P0, e0, hv0⟩ := OwnP.form oM
    obtain ⟨P1, e1, hv1⟩ := OwnI.form oD
    obtain ⟨P2, e2, hv2⟩ := OwnP.form oS
    obtain ⟨k0, hk0⟩ : ∃ k, ms.length = k := ⟨_, rfl⟩
    obtain ⟨k1, hk1⟩ : ∃ k, (depL (opsL l) l.length).length = k := ⟨_, rfl⟩
    rw [hk0] at hv0
    rw [hk1] at hv1
    subst hv0 hv1 hv2
    have HD := Lib.hid hd
    clear hd oM oD oS hk0 hk1
    go_wp2_with fail
    exact bodyPost_ret (v := .tuple #[.slice P0 k0 e0, .bool true]) (by simp [results, Tryd.results11, go_sem]) rfl ⟨by rw [HD.out]; exact ⟨_, rfl, World.ownsRow.alloc HO.out _⟩, HB.out.alloc HB.out.size _⟩
theorem depths_any {l : List (Ins × Value)} {A : Option Addr} {n c : Nat} {w : World} (hT : KTab w) (hn : l.length = n) (hbig : n ≤ 80000) (hr : InRow w (.slice A n c) l) :
    Calls Tryd.prog 25 #[.slice A n c] w fun e w' => (∃ v, e = .returned v ∧ OwnI w' w.heap.size v (dDepths (opsL l))) ∧ Below w.heap.size w w' := by
  have HC := Lib.hid (nested_any hT hn hbig hr)
  clear hT hn hr
  go_enter Tryd.func25, Tryd.ntmps25
  go_wp2_with fail
  refine HC.out.mono ?_
  rintro e w1 ⟨hres, hb⟩
  have HB := Lib.hid hb
  clear HC hb
  cases hd : dM (opsL l) with
  | none =>
    rw [hd] at hres
    obtain rfl := hres
    have HDD : Hid (dDepths (opsL l) = []) := by show _ = _; unfold dDepths; rw [hd]
    clear hd
    go_wp2_with fail
    exact bodyPost_ret (v := .slice none 0 0) (by simp [results, Tryd.results25, go_sem]) rfl ⟨⟨_, rfl, by rw [HDD.out]; exact ownI_nil _ _⟩, HB.out.alloc HB.out.size _⟩
  | some ms =>
    rw [hd] at hres
    have HDD : Hid (dDepths (opsL l) = depL (opsL l) l.length) := by show _ = _; unfold dDepths; rw [hd, opsL_len]
    obtain ⟨vM, vD, vS, rfl, oM, oD, oS⟩ := hres
    have HO := Lib.hid oD
    obtain ⟨P0, e0, hv0⟩ := OwnP.form oM
    obtain ⟨P1, e1, hv1⟩ := OwnI.form oD
    obtain ⟨P2, e2, hv2⟩ := OwnP.form oS
    obtain ⟨k0, hk0⟩ : ∃ k, ms.length = k := ⟨_, rfl⟩
    obtain ⟨k1, hk1⟩ : ∃ k, (depL (opsL l) l.length).length = k := ⟨_, rfl⟩
    rw [hk0] at hv0
    rw [hk1] at hv1
    subst hv0 hv1 hv2
    clear hd oM oD oS hk0 hk1
    go_wp2_with fail
    exact bodyPost_ret (v := .slice P1 k1 e1) (by simp [results, Tryd.results25, go_sem]) rfl ⟨⟨_, rfl, by rw [HDD.out]; exact World.ownsRow.alloc HO.out _⟩, HB.out.alloc HB.out.size _⟩
end Go.Proofs.YtdmidagcdhhlhaaDoor.Bod

/- What an instruction stands in, by the program: walked. -/
namespace Go.Proofs.YtdmidagcdhhlhaaDoor.Bod
open Go.RowKit Ints Typ Ins
set_option maxRecDepth 100000
set_option maxHeartbeats 2000000
set_option linter.unusedVariables false
/-- What one stands in, the innermost one last. -/
def arS (ops : List Int) (p : Nat) : List (Int × Nat) := ((sIn ops p).map fun x => (ops.getD x.1 0, x.1)).reverse
theorem arS_len (ops : List Int) (p : Nat) : (arS ops p).length = (aroundD ops p).length := by simp [arS, aroundD]
theorem nst_front {a z : List Int} : ∀ {p : Nat}, p ≤ a.length → nst (a ++ z) p = nst a p
  | 0, _ => rfl
  | p + 1, hp => by
    have e1 : nst (a ++ z) (p + 1) = (nst (a ++ z) p).bind fun n => tk ((a ++ z).getD p 0) n := rfl
    have e2 : nst a (p + 1) = (nst a p).bind fun n => tk (a.getD p 0) n := rfl
    rw [e1, e2, nst_front (p := p) (by omega)]
    have : (a ++ z).getD p 0 = a.getD p 0 := by
      rw [List.getD_eq_getElem?_getD, List.getD_eq_getElem?_getD, List.getElem?_append_left (by omega)]
    rw [this]
theorem opsL_take (l : List (Ins × Value)) (k : Nat) : opsL (l.take k) = (opsL l).take k := by simp [opsL]
theorem nst_take {l : List (Ins × Value)} {k : Nat} (hk : k ≤ l.length) : nst (opsL (l.take k)) (l.take k).length = nst (opsL l) k := by
  have hlen : ((opsL l).take k).length = k := by rw [List.length_take, opsL_len]; omega
  rw [List.length_take, Nat.min_eq_left hk, opsL_take]
  have := nst_front (a := (opsL l).take k) (z := (opsL l).drop k) (p := k) (by omega)
  rw [List.take_append_drop] at this
  exact this.symm
/-- What is open behind one: what it stands in, outermost first, and maybe itself or its own. -/
theorem nst_arS {ops : List Int} (h : Nested ops) {p : Nat} (hp : p < ops.length) : ∃ n, nst ops (p + 1) = some n ∧ n.D = depL ops (p + 1) ∧ n.S.take (aroundD ops p).length = arS ops p ∧ (aroundD ops p).length ≤ n.S.length := by
  have I := nst_inv ops (p + 1) (by omega)
  have h0 := sAt_st h (p := p) (by omega)
  have h1 := sAt_st h (p := p + 1) (by omega)
  rw [h1] at I
  obtain ⟨n, hn, I⟩ := I
  have hs := st_succ h0 h1
  have key : ∃ X : List (Nat × Bool × Int), (sAt ops (p + 1)).map (fun x => (ops.getD x.1 0, x.1)) = X.map (fun x => (ops.getD x.1 0, x.1)) ++ (sIn ops p).map (fun x => (ops.getD x.1 0, x.1)) := by
    unfold stepS at hs
    unfold sIn
    by_cases g1 : opn (ops.getD p 0) = true
    · rw [if_pos g1] at hs
      rw [if_neg (by have := opn_not g1; omega), ← Option.some.inj hs]
      exact ⟨[(p, ops.getD p 0 == 4, -1)], rfl⟩
    · rw [if_neg g1] at hs
      by_cases g2 : ops.getD p 0 = 5
      · rw [if_pos g2] at hs
        rw [if_pos (.inl g2)]
        cases hS : sAt ops p with
        | nil => rw [hS] at hs; cases hs
        | cons a S =>
          obtain ⟨k0, f0, o0⟩ := a
          rw [hS] at hs
          cases f0 with
          | false => cases hs
          | true =>
            simp only at hs
            by_cases g3 : o0 < 0
            · rw [if_pos g3] at hs
              rw [← Option.some.inj hs]
              exact ⟨[(k0, true, (p : Int))], rfl⟩
            · rw [if_neg g3] at hs; cases hs
      · rw [if_neg g2] at hs
        by_cases g3 : ops.getD p 0 = 11
        · rw [if_pos g3] at hs
          rw [if_pos (.inr g3)]
          cases hS : sAt ops p with
          | nil => rw [hS] at hs; cases hs
          | cons a S =>
            rw [hS] at hs
            simp only at hs
            rw [← Option.some.inj hs]
            exact ⟨[], rfl⟩
        · rw [if_neg g3] at hs
          rw [if_neg (by omega), ← Option.some.inj hs]
          exact ⟨[], rfl⟩
  obtain ⟨X, hX⟩ := key
  have hSn := I.stk
  rw [hX, List.reverse_append] at hSn
  have hlen : (arS ops p).length = (aroundD ops p).length := arS_len ops p
  refine ⟨n, hn, I.dep, ?_, ?_⟩
  · rw [hSn, ← hlen]
    unfold arS
    rw [List.take_append_of_le_length (Nat.le_refl _), List.take_length]
  · rw [hSn, ← hlen, List.length_append]
    unfold arS
    omega
theorem OwnP.take {e : TypeId} {w : World} {B n c d : Nat} {P : Option Addr} {l : List (Int × Int)} (h : OwnP e w B (.slice P n c) l) (hd : d ≤ n) : OwnP e w B (.slice P d c) (l.take d) ∧ d ≤ c ∧ c ≤ 9223372036854775807 ∧ ((P = none ∧ n = 0 ∧ c = 0) ∨ ∃ g, P = some ⟨g, 0, none⟩) := by
  obtain ⟨h1, ⟨hv, hl⟩ | ⟨g', cap, cur, hv, hB, hc, hle, hm, hsz, ht⟩⟩ := h
  · injection hv with e1 e2 e3
    subst e1 e2 e3
    obtain rfl : d = 0 := by omega
    exact ⟨⟨rfl, .inl ⟨rfl, by simp⟩⟩, Nat.le_refl _, by omega, .inl ⟨rfl, rfl, rfl⟩⟩
  · injection hv with e1 e2 e3
    subst e1 e2 e3
    have hlen := flat2_len l
    have hdl : (l.take d).length = d := by rw [List.length_take]; omega
    refine ⟨⟨flat2_len _, .inr ⟨g', c, cur, by rw [hdl], hB, hc, by omega, hm, hsz, ?_⟩⟩, by omega, by unfold maxLen at hm; omega, .inr ⟨g', rfl⟩⟩
    rw [hdl]
    have h2 : l.flatMap c2 = (l.take d).flatMap c2 ++ (l.drop d).flatMap c2 := by rw [← List.flatMap_append, List.take_append_drop]
    have := congrArg (List.take (d * 2)) ht
    rw [List.take_take, h2, List.take_append_of_le_length (by rw [flat2_len, hdl]; exact Nat.le_refl _), show ((l.take d).flatMap c2).take (d * 2) = (l.take d).flatMap c2 from List.take_of_length_le (by rw [flat2_len, hdl]; exact Nat.le_refl _), show min (d * 2) (l.length * 2) = d * 2 from by omega] at this
    exact this
theorem prs_take (l : List (Int × Nat)) (d : Nat) : (prs l).take d = prs (l.take d) := by simp [prs]
theorem InRow.take {w : World} {A : Option Addr} {n c k : Nat} {l : List (Ins × Value)} (h : InRow w (.slice A n c) l) (hk : k ≤ l.length) : InRow w (.slice A k c) (l.take k) := by
  obtain ⟨⟨A', c', h1, h2, h3, h4⟩, h5⟩ := h
  injection h1 with e1 e2 e3
  subst e1 e2 e3
  have hl : (l.take k).length = k := by rw [List.length_take]; omega
  refine ⟨⟨A, c, by rw [hl], by omega, h3, fun h0 => ?_⟩, fun p hp => h5 p (List.mem_of_mem_take hp)⟩
  have hne : l ≠ [] := fun e => h0 (by rw [e]; simp)
  obtain ⟨g, off, e, hg, hB⟩ := h4 hne
  refine ⟨g, off, e, hg, fun j p hp => hB j p ?_⟩
  rw [List.getElem?_take] at hp
  split at hp
  · exact hp
  · cases hp
theorem paround_any {l : List (Ins × Value)} {A : Option Addr} {n c p : Nat} {w : World} (hT : KTab w) (hn : l.length = n) (hbig : n ≤ 79000) (hr : InRow w (.slice A n c) l) (hN : Nested (opsL l)) (hp : p < n) :
    Calls Tryd.prog 38 #[.slice A n c, .int .i64 (p : Int)] w fun e w' => (∃ v, e = .returned v ∧ OwnP 71 w' w.heap.size v (prs (arS (opsL l) p))) ∧ Below w.heap.size w w' := by
  have hpl : p < (opsL l).length := by rw [opsL_len, hn]; exact hp
  obtain ⟨n0, hn0, hD0, hS0, hL0⟩ := nst_arS hN hpl
  have htk := nst_take (l := l) (k := p + 1) (by omega)
  rw [hn0] at htk
  have HC := Lib.hid (gone_any hT (show (l.take (p + 1)).length = p + 1 by rw [List.length_take]; omega) (by omega) (InRow.take hr (by omega)))
  obtain ⟨⟨A', c', h1, h2, h3, h4⟩, _⟩ := id hr
  injection h1 with e1 e2 e3
  subst e1 e3
  have HTK := Lib.hid htk
  have HD0 := Lib.hid hD0
  have HS0 := Lib.hid hS0
  have HL0 := Lib.hid hL0
  have hpc1 : (0 : Int) ≤ (p : Int) + 1 := by omega
  have hpc2 : (p : Int) + 1 ≤ (c : Int) := by omega
  have hw1 : IntKind.i64.wrap ((p : Int) + 1) = (p : Int) + 1 := IntWalk.i64_in _ (by omega)
  have hpt : ((p : Int) + 1).toNat = p + 1 := by omega
  clear hT hr hN hn0 hD0 hS0 hL0 htk h2 h3 h4 hpl e2
  go_enter Tryd.func38, Tryd.ntmps38
  go_wp2_with fail
  refine HC.out.mono ?_
  rintro e w2 ⟨vM, vD, vS, n1, rfl, hn1, oM, oD, oS, hb⟩
  obtain rfl := hn1 _ HTK.out
  obtain ⟨d, hd⟩ : ∃ d, (aroundD (opsL l) p).length = d := ⟨_, rfl⟩
  have hL0 := HL0.out
  have hS0 := HS0.out
  rw [hd] at hL0 hS0
  have hdep : n1.D.getD p 0 = (d : Int) := by rw [HD0.out, depL_get _ (by omega), hd]
  have hdl : n1.D.length = p + 1 := by rw [HD0.out]; simp [depL]
  have hS := OwnI.slI oD
  obtain ⟨P0, e0, hv0⟩ := OwnP.form oM
  obtain ⟨P1, e1, hv1⟩ := OwnI.form oD
  obtain ⟨P2, e2, hv2⟩ := OwnP.form oS
  rw [prs_len] at hv2
  obtain ⟨k0, hk0⟩ : ∃ k, n1.M.length = k := ⟨_, rfl⟩
  obtain ⟨k2, hk2⟩ : ∃ k, n1.S.length = k := ⟨_, rfl⟩
  rw [hk0] at hv0
  rw [hdl] at hv1
  rw [hk2] at hv2 hL0
  subst hv0 hv1 hv2
  obtain ⟨oT, hde, hec, hP⟩ := OwnP.take oS hL0
  rw [prs_take, hS0] at oT
  have HO := Lib.hid (World.ownsRow.alloc oT (.cells #[.slice P0 k0 e0, .slice P1 (p + 1) e1, .slice P2 k2 e2] 56))
  have HB := Lib.hid (hb.alloc hb.size (.cells #[.slice P0 k0 e0, .slice P1 (p + 1) e1, .slice P2 k2 e2] 56))
  have hal := (Below.refl w2.heap.size w2).alloc (Nat.le_refl _) (.cells #[.slice P0 k0 e0, .slice P1 (p + 1) e1, .slice P2 k2 e2] 56)
  obtain ⟨gd, od, hPd, hgd, hcl⟩ := sl_cell (hS.keep hal) (i := p) (by rw [hdl]; omega)
  rw [hdep] at hcl
  subst hPd
  have hd1 : (0 : Int) ≤ (d : Int) := by omega
  have hd2 : (d : Int) ≤ (e2 : Int) := by omega
  have hp1 : (0 : Int) ≤ (p : Int) := by omega
  have hp2 : (p : Int) < ((p + 1 : Nat) : Int) := by omega
  have hp3 : (p : Int) < (p : Int) + 1 := by omega
  clear HC hn1 oM oD oS hb hL0 hS0 hdep hdl hS hk0 hk2 oT hal hgd HTK HD0 HS0 HL0
  rcases hP with ⟨rfl, rfl, rfl⟩ | ⟨gs, rfl⟩
  · obtain rfl : d = 0 := by omega
    go_wp2_with fail
    go_quiet (fail)
    go_wp2_with fail
    exact bodyPost_ret (v := .slice none 0 0) (by simp [results, Tryd.results38, go_sem]) rfl ⟨⟨_, rfl, own_stay HO.out fun k hk => rfl⟩, HB.out.trans (drewNB _ nq HB.out.size)⟩
  · go_wp2_with fail
    go_quiet (fail)
    go_wp2_with fail
    exact bodyPost_ret (v := .slice (some ⟨gs, 0, none⟩) d e2) (by simp [results, Tryd.results38, go_sem]) rfl ⟨⟨_, rfl, own_stay HO.out fun k hk => rfl⟩, HB.out.trans (drewNB _ nq HB.out.size)⟩
end Go.Proofs.YtdmidagcdhhlhaaDoor.Bod

/- Where a branch goes on, by the program: walked. -/
namespace Go.Proofs.YtdmidagcdhhlhaaDoor.Bod
open Go.RowKit Ints Typ Ins
set_option maxRecDepth 100000
set_option maxHeartbeats 2000000
set_option linter.unusedVariables false
/-- Out of what one stands in, of nested ones. -/
theorem tgt_eq {ops : List Int} {ms : List (Int × Int)} (h : dM ops = some ms) {p : Nat} (hp : p < ops.length) (b : Nat) : tgt ops p b = if (aroundD ops p).length < b then (0, false) else if b = (aroundD ops p).length then ((ops.length : Int), true) else if ops.getD ((aroundD ops p).getD b 0).toNat 0 = 3 then ((aroundD ops p).getD b 0, true) else ((dEnd ops ((aroundD ops p).getD b 0).toNat).1, true) := by
  unfold tgt
  rw [h]
  simp only
  rw [if_neg (by omega), Int.toNat_natCast]
  by_cases g : (aroundD ops p).length < b
  · rw [if_pos (.inr (by omega)), if_pos g]
  · rw [if_neg (by omega), if_neg g]
    by_cases g2 : b = (aroundD ops p).length
    · rw [if_pos (by omega), if_pos g2]
    · rw [if_neg (by omega), if_neg g2]
      rfl
theorem prs_get {S : List (Int × Nat)} {i : Nat} {x : Int × Nat} (h : S[i]? = some x) : (prs S).getD i (0, 0) = (x.1, (x.2 : Int)) := by
  unfold prs
  rw [List.getD_eq_getElem?_getD, List.getElem?_map, h]
  rfl
/-- The one that a label names, counted from the other side. -/
theorem arS_get {ops : List Int} (h : Nested ops) {p b : Nat} (hp : p < ops.length) (hb : b < (aroundD ops p).length) : ∃ j : Nat, (aroundD ops p).getD b 0 = (j : Int) ∧ j < p ∧ opn (ops.getD j 0) = true ∧ (prs (arS ops p)).getD ((aroundD ops p).length - 1 - b) (0, 0) = (ops.getD j 0, (j : Int)) := by
  obtain ⟨j, h1, h2, h3⟩ := around_mem h hp hb
  refine ⟨j, h1, h2, h3, ?_⟩
  have hl : (sIn ops p).length = (aroundD ops p).length := by simp [aroundD]
  obtain ⟨a, ha⟩ : ∃ a, (sIn ops p)[b]? = some a := ⟨_, List.getElem?_eq_getElem (by omega)⟩
  have hj : a.1 = j := by
    unfold aroundD at h1
    rw [List.getD_eq_getElem?_getD, List.getElem?_map, ha] at h1
    have h1 : (a.1 : Int) = (j : Int) := h1
    omega
  have hm : ((sIn ops p).map fun x => (ops.getD x.1 0, x.1)).length = (aroundD ops p).length := by rw [List.length_map, hl]
  refine prs_get (x := (ops.getD j 0, j)) ?_
  unfold arS
  rw [List.getElem?_reverse (by omega), hm, show (aroundD ops p).length - 1 - ((aroundD ops p).length - 1 - b) = b from by omega, List.getElem?_map, ha, ← hj]
  rfl
theorem btarget_no {l : List (Ins × Value)} {A : Option Addr} {n c : Nat} {w : World} (hT : KTab w) (hn : l.length = n) (hbig : n ≤ 79000) (hr : InRow w (.slice A n c) l) (a lab : Int) (h : dM (opsL l) = none ∨ a < 0 ∨ (n : Int) ≤ a ∨ lab < 0) :
    Calls Tryd.prog 17 #[.slice A n c, .int .i64 a, .int .i64 lab] w fun e w' => e = .returned (.tuple #[.int .i64 0, .bool false]) ∧ Below w.heap.size w w' := by
  have HC := Lib.hid (nested_any hT hn (by omega) hr)
  have HN := Lib.hid hn
  have HH := Lib.hid h
  clear hT hr hn h
  go_enter Tryd.func17, Tryd.ntmps17
  go_wp2_with fail
  go_step3
  go_wp2_with fail
  refine HC.out.mono ?_
  rintro e w1 ⟨hres, hb⟩
  have HB := Lib.hid hb
  clear HC hb
  cases hd : dM (opsL l) with
  | none =>
    rw [hd] at hres
    obtain rfl := hres
    clear hd
    go_wp2_with fail
    try rw [Exit.noGoto_ret]
    exact bodyPost_ret (v := .tuple #[.int .i64 0, .bool false]) (by simp [results, Tryd.results17, go_sem]) rfl ⟨rfl, HB.out.alloc HB.out.size _⟩
  | some ms =>
    rw [hd] at hres
    have hh : a < 0 ∨ (n : Int) ≤ a ∨ lab < 0 := by
      rcases HH.out with q | q
      · rw [hd] at q; cases q
      · exact q
    obtain ⟨vM, vD, vS, rfl, oM, oD, oS⟩ := hres
    obtain ⟨P0, e0, hv0⟩ := OwnP.form oM
    obtain ⟨P1, e1, hv1⟩ := OwnI.form oD
    obtain ⟨P2, e2, hv2⟩ := OwnP.form oS
    obtain ⟨k0, hk0⟩ : ∃ k, ms.length = k := ⟨_, rfl⟩
    obtain ⟨k1, hk1⟩ : ∃ k, (depL (opsL l) l.length).length = k := ⟨_, rfl⟩
    rw [hk0] at hv0
    rw [hk1] at hv1
    subst hv0 hv1 hv2
    clear hd oM oD oS hk0 hk1
    by_cases h1 : a < 0
    · have t1 : decide (a < 0) = true := decide_eq_true h1
      clear hh h1
      go_wp2_with fail
      try rw [Exit.noGoto_ret]
      exact bodyPost_ret (v := .tuple #[.int .i64 0, .bool false]) (by simp [results, Tryd.results17, go_sem]) rfl ⟨rfl, HB.out.alloc HB.out.size _⟩
    · have t1 : decide (a < 0) = false := decide_eq_false h1
      by_cases h2 : (n : Int) ≤ a
      · have t2 : decide ((n : Int) ≤ a) = true := decide_eq_true h2
        clear hh h1 h2
        go_wp2_with fail
        try rw [Exit.noGoto_ret]
        exact bodyPost_ret (v := .tuple #[.int .i64 0, .bool false]) (by simp [results, Tryd.results17, go_sem]) rfl ⟨rfl, HB.out.alloc HB.out.size _⟩
      · have t2 : decide ((n : Int) ≤ a) = false := decide_eq_false h2
        have h3 : lab < 0 := by omega
        have t3 : decide (lab < 0) = true := decide_eq_true h3
        clear hh h1 h2 h3
        go_wp2_with fail
        try rw [Exit.noGoto_ret]
        exact bodyPost_ret (v := .tuple #[.int .i64 0, .bool false]) (by simp [results, Tryd.results17, go_sem]) rfl ⟨rfl, HB.out.alloc HB.out.size _⟩
theorem btarget_yes {l : List (Ins × Value)} {ms : List (Int × Int)} {A : Option Addr} {n c p b : Nat} {w : World} (hT : KTab w) (hn : l.length = n) (hbig : n ≤ 79000) (hr : InRow w (.slice A n c) l) (hd : dM (opsL l) = some ms) (hp : p < n) (hbb : (b : Int) ≤ 9223372036854775807) :
    Calls Tryd.prog 17 #[.slice A n c, .int .i64 (p : Int), .int .i64 (b : Int)] w fun e w' => e = .returned (.tuple #[.int .i64 (tgt (opsL l) p b).1, .bool (tgt (opsL l) p b).2]) ∧ Below w.heap.size w w' := by
  have hpl : p < (opsL l).length := by rw [opsL_len, hn]; exact hp
  have hTE := tgt_eq hd hpl b
  rw [opsL_len, hn] at hTE
  obtain ⟨T, hTT⟩ : ∃ T, tgt (opsL l) p b = T := ⟨_, rfl⟩
  rw [hTT] at hTE ⊢
  have HTE := Lib.hid hTE
  have HC := Lib.hid (nested_any hT hn (by omega) hr)
  have HN := Lib.hid hn
  have HD := Lib.hid hd
  have HT := Lib.hid hT
  have HR := Lib.hid hr
  have HPL := Lib.hid hpl
  have hp1 : decide ((p : Int) < 0) = false := decide_eq_false (by omega)
  have hp2 : decide ((n : Int) ≤ (p : Int)) = false := decide_eq_false (by omega)
  have hp3 : decide ((b : Int) < 0) = false := decide_eq_false (by omega)
  clear hT hr hn hd hTT hTE hpl
  go_enter Tryd.func17, Tryd.ntmps17
  go_wp2_with fail
  go_step3
  go_wp2_with fail
  refine HC.out.mono ?_
  rintro e w1 ⟨hres, hb⟩
  rw [HD.out] at hres
  obtain ⟨vM, vD, vS, rfl, oM, oD, oS⟩ := hres
  obtain ⟨P0, e0, hv0⟩ := OwnP.form oM
  obtain ⟨P1, e1, hv1⟩ := OwnI.form oD
  obtain ⟨P2, e2, hv2⟩ := OwnP.form oS
  have hk0 : ms.length = n := by rw [(dM_at HD.out).1, opsL_len, HN.out]
  obtain ⟨k1, hk1⟩ : ∃ k, (depL (opsL l) l.length).length = k := ⟨_, rfl⟩
  rw [hk0] at hv0
  rw [hk1] at hv1
  subst hv0 hv1 hv2
  have HB := Lib.hid (hb.alloc hb.size (.cells #[.slice P0 n e0, .slice P1 k1 e1, .slice P2 0 e2] 56))
  have HOM := Lib.hid (World.ownsRow.alloc oM (.cells #[.slice P0 n e0, .slice P1 k1 e1, .slice P2 0 e2] 56))
  have HZ := Lib.hid (heap_new w1 (.cells #[.slice P0 n e0, .slice P1 k1 e1, .slice P2 0 e2] 56))
  clear HC hb oM oD oS hk0 hk1
  go_wp2_with fail
  have HPR := Lib.hid (paround_any (HT.out.keep HB.out) HN.out hbig (HR.out.keep HB.out) (dM_nested HD.out) hp)
  refine HPR.out.mono ?_
  rintro e w3 ⟨⟨v, rfl, ho⟩, hb⟩
  obtain ⟨d, hd⟩ : ∃ d, (aroundD (opsL l) p).length = d := ⟨_, rfl⟩
  obtain ⟨Po, eo, hv⟩ := OwnP.form ho
  rw [prs_len, arS_len, hd] at hv
  subst hv
  have HO := Lib.hid ho
  have HDL := Lib.hid hd
  have HB3 := Lib.hid (HB.out.trans (hb.mono HB.out.size))
  have HOM := Lib.hid (own_keep HOM.out hb)
  have z0 : w3.cell? ⟨w1.heap.size, 0, none⟩ = some (.slice P0 n e0) := (cells_at ((hb.block w1.heap.size (lt_of_heap HZ.out)).trans HZ.out) 0).1
  have HPLEN : Hid (d ≤ n) := by
    have h1 := arL_len (arF (opsL l) ms p) p 0
    rw [ar_is HD.out HPL.out, hd] at h1
    show _ ≤ _
    omega
  rw [hd] at HTE
  clear HPR hb ho hd HZ
  generalize w1.heap.size = z at z0 ⊢
  have hdw : IntKind.i64.wrap ((d : Int) - 1) = (d : Int) - 1 := IntWalk.i64_in _ (by have := HPLEN.out; omega)
  go_wp2_with fail
  go_step3
  go_wp2_with fail
  go_loopw [2, 10, 12] (fun l' t' k' wr => ∃ (j u : Nat) (v : Int), u + j = b ∧ v + j + 1 = d ∧ -1 ≤ v ∧ l' = .int .i64 (u : Int) ∧ t' = .int .i64 (n : Int) ∧ k' = .int .i64 v ∧ wr = w3) (fun _ _ k' _ => (intOf k' + 1).toNat)
  case atStart => exact ⟨0, b, (d : Int) - 1, by omega, by omega, by omega, rfl, rfl, rfl, rfl⟩
  case round =>
    obtain ⟨j, u, v, hj1, hj2, hv1, rfl, rfl, rfl, rfl⟩ := hrel
    by_cases hv : v < 0
    · have t1 : decide (0 ≤ v) = false := decide_eq_false (by omega)
      cases u with
      | zero =>
        have HTV := Lib.hid (show T = ((n : Int), true) by rw [HTE.out, if_neg (by omega), if_pos (by omega)])
        clear hj1 hj2 hv1 hv
        go_wp2_with fail
        try rw [Exit.noGoto_ret]
        exact bodyPost_ret (v := .tuple #[.int .i64 (n : Int), .bool true]) (by simp [results, Tryd.results17, go_sem]) rfl ⟨by rw [HTV.out], HB3.out⟩
      | succ u =>
        have HTV := Lib.hid (show T = (0, false) by rw [HTE.out, if_pos (by omega)])
        have t2 : decide ((0 : Int) < ((u + 1 : Nat) : Int)) = true := decide_eq_true (by omega)
        have t3 : decide ((0 : Int) < (u : Int) + 1) = true := decide_eq_true (by omega)
        clear hj1 hj2 hv1 hv
        go_wp2_with fail
        try rw [Exit.noGoto_ret]
        exact bodyPost_ret (v := .tuple #[.int .i64 0, .bool false]) (by simp [results, Tryd.results17, go_sem]) rfl ⟨by rw [HTV.out], HB3.out⟩
    · obtain ⟨k, rfl⟩ : ∃ k : Nat, v = (k : Int) := ⟨v.toNat, by omega⟩
      have t1 : decide (0 ≤ (k : Int)) = true := decide_eq_true (by omega)
      cases u with
      | succ u =>
        have t2 : decide ((0 : Int) < ((u + 1 : Nat) : Int)) = true := decide_eq_true (by omega)
        have t3 : decide ((0 : Int) < (u : Int) + 1) = true := decide_eq_true (by omega)
        have w1' : IntKind.i64.wrap (((u + 1 : Nat) : Int) - 1) = (u : Int) := by rw [IntWalk.i64_in _ (by omega)]; omega
        have w1'' : IntKind.i64.wrap (u : Int) = (u : Int) := IntWalk.i64_in _ (by omega)
        have w2' : IntKind.i64.wrap ((k : Int) - 1) = (k : Int) - 1 := IntWalk.i64_in _ (by have := HPLEN.out; omega)
        go_wp2_with fail
        go_roundw
        case rel => exact ⟨j + 1, u, (k : Int) - 1, by omega, by omega, by omega, by go_num, rfl, by go_num, by first | rfl | trivial⟩
        case measure => first | (simp [intOf]; done) | (simp [intOf]; omega)
      | zero =>
        obtain ⟨q, a1, a2, a3, a4⟩ := arS_get (dM_nested HD.out) HPL.out (b := b) (by rw [HDL.out]; omega)
        have hkk : (aroundD (opsL l) p).length - 1 - b = k := by rw [HDL.out]; omega
        rw [hkk] at a4
        have hTV := HTE.out
        rw [if_neg (by omega), if_neg (by omega), a1, Int.toNat_natCast] at hTV
        have hkd : k < (prs (arS (opsL l) p)).length := by rw [prs_len, arS_len, HDL.out]; omega
        obtain ⟨go, co, hvo, _⟩ := OwnP.shape HO.out hkd
        injection hvo with e1' e2' e3'
        subst e1'
        have hco := OwnP.cells HO.out hkd
        rw [a4] at hco
        obtain ⟨o1, o2⟩ := hco
        simp only at o1 o2
        have hqn : q < ms.length := by rw [(dM_at HD.out).1, opsL_len, HN.out]; omega
        obtain ⟨gm, cm, hvm, _⟩ := OwnP.shape HOM.out hqn
        injection hvm with m1' m2' m3'
        subst m1'
        have hcm := (OwnP.cells HOM.out hqn).2
        rw [(dM_at HD.out).2 q (by rw [opsL_len, HN.out]; omega) a3] at hcm
        simp only at hcm
        have i1 : (0 : Int) ≤ (k : Int) := by omega
        have i2 : (k : Int) < (d : Int) := by omega
        have i3 : (0 : Int) ≤ (q : Int) := by omega
        have i4 : (q : Int) < (n : Int) := by omega
        have HQ := Lib.hid a2
        generalize (opsL l).getD q 0 = oq at o1 hTV
        generalize (dEnd (opsL l) q).1 = dq at hcm hTV
        clear a1 a2 a3 a4 hkk hkd e2' e3' hqn m2' m3'
        by_cases h3 : oq = 3
        · have HTV := Lib.hid (show T = ((q : Int), true) by rw [hTV, if_pos h3])
          have t5 : (oq == 3) = true := by simpa using h3
          clear hTV h3 hcm
          go_wp2_with fail
          try rw [Exit.noGoto_ret]
          exact bodyPost_ret (v := .tuple #[.int .i64 (q : Int), .bool true]) (by simp [results, Tryd.results17, go_sem]) rfl ⟨by rw [HTV.out], HB3.out⟩
        · have HTV := Lib.hid (show T = (dq, true) by rw [hTV, if_neg h3])
          have t5 : (oq == 3) = false := by simpa using h3
          clear hTV h3
          go_wp2_with fail
          go_quiet (fail)
          go_wp2_with fail
          try rw [Exit.noGoto_ret]
          exact bodyPost_ret (v := .tuple #[.int .i64 dq, .bool true]) (by simp [results, Tryd.results17, go_sem]) rfl ⟨by rw [HTV.out], HB3.out.trans (drewNB _ nq HB3.out.size)⟩
end Go.Proofs.YtdmidagcdhhlhaaDoor.Bod
