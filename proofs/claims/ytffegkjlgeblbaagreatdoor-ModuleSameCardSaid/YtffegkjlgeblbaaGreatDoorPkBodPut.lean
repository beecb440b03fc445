/- BodGone, BodNested, BodSane, BodPlain, BodAroundP, BodSameP, BodPut. -/
import Derived.Test.YtffegkjlgeblbaaGreatDoorPkBodTakeW
import Derived.Test.YtffegkjlgeblbaaGreatDoorPkBodTake
import Derived.Test.YtffegkjlgeblbaaGreatDoorPkInsPSame
import Derived.Test.YtffegkjlgeblbaaGreatDoorPkBodTurn
import Derived.WalkMore
import Derived.Test.YtffegkjlgeblbaaGreatDoorPkInsPSane
import Derived.Test.YtffegkjlgeblbaaGreatDoorPkInsPTabs
section
/- What is gone over, and nested: the program's, walked. -/
namespace Go.Proofs.YtffegkjlgeblbaaGreatDoor.Bod
open Go.RowKit Ints Typ Ins
set_option maxRecDepth 100000
set_option maxHeartbeats 2000000
set_option linter.unusedVariables false
theorem tk_lens {op : Int} {n n' : Nst} (h : tk op n = some n') : n'.M.length = n.M.length + 1 ∧ n'.S.length ≤ n.S.length + 1 := by
  have hl : (tk1 op n).M.length = n.M.length + 1 := by simp [tk1]
  unfold tk at h
  split at h
  · obtain rfl := Option.some.inj h
    exact ⟨hl, by simp⟩
  · split at h
    · unfold tkTurn at h
      split at h
      · cases h
      · split at h
        · cases h
        · obtain rfl := Option.some.inj h
          exact ⟨by simp [hl], by simp [tk1]⟩
    · split at h
      · unfold tkEnd at h
        split at h
        · cases h
        · rename_i x hx
          obtain rfl := Option.some.inj h
          refine ⟨?_, by simp [tk1]; omega⟩
          show (endM n.M.length x.2 (tk1 op n).M).length = _
          unfold endM
          split <;> simp [hl]
      · obtain rfl := Option.some.inj h
        exact ⟨hl, by simp [tk1]⟩
theorem nst_lens {ops : List Int} : ∀ {p : Nat} {n : Nst}, nst ops p = some n → n.M.length = p ∧ n.S.length ≤ p
  | 0, n, h => by
    obtain rfl := Option.some.inj h
    exact ⟨rfl, Nat.le_refl _⟩
  | p + 1, n, h => by
    have e : nst ops (p + 1) = (nst ops p).bind fun n => tk (ops.getD p 0) n := rfl
    rw [e] at h
    cases h0 : nst ops p with
    | none => rw [h0] at h; cases h
    | some n0 =>
      rw [h0] at h
      have ih := nst_lens h0
      have := tk_lens h
      omega
theorem nst_stop {ops : List Int} {i : Nat} (h : nst ops i = none) : ∀ j, i ≤ j → nst ops j = none
  | 0, hj => by obtain rfl : i = 0 := by omega
                cases h
  | j + 1, hj => by
    by_cases e : i = j + 1
    · subst e; exact h
    · have e2 : nst ops (j + 1) = (nst ops j).bind fun n => tk (ops.getD j 0) n := rfl
      rw [e2, nst_stop h j (by omega)]
      rfl
theorem own_far {w : World} {B e s n : Nat} {v : Value} {xs : List Value} (h : w.ownsRow B e s v n xs) {p : Addr} (hp : p.block < B) (u : Value) : (w.setCell p u).ownsRow B e s v n xs :=
  own_stay h fun k hk => Below.heap_setCell _ _ _ _ (by have := (World.ownsRow.lt h k hk).1; omega)
def GTold (l : List (Ins × Value)) (w : World) (e : Ending) (w' : World) : Prop := ∃ vM vD vS n1, e = .returned (.tuple #[.agg #[vM, vD, vS], .bool (nst (opsL l) l.length).isSome]) ∧ (∀ m, nst (opsL l) l.length = some m → n1 = m) ∧ OwnP 282 w' w.heap.size vM n1.M ∧ OwnI w' w.heap.size vD n1.D ∧ OwnP 284 w' w.heap.size vS (prs n1.S) ∧ Below w.heap.size w w'
theorem heap_new (w : World) (o : Obj) : (w.alloc o).heap[w.heap.size]? = some o := by
  show (w.heap.push o)[w.heap.size]? = some o
  simp
theorem size_new (w : World) (o : Obj) : (w.alloc o).heap.size = w.heap.size + 1 := by
  show (w.heap.push o).size = _
  simp
theorem NAt.new (w : World) : NAt (w.alloc (.cells #[.slice none 0 0, .slice none 0 0, .slice none 0 0] 258)) w.heap.size w.heap.size (.slice none 0 0) (.slice none 0 0) (.slice none 0 0) ⟨[], [], []⟩ :=
  ⟨Nat.le_refl _, heap_new _ _, ownP_nil _ _ _, ownI_nil _ _, ownP_nil _ _ _⟩
theorem gone_any {l : List (Ins × Value)} {A : Option Addr} {n c : Nat} {w : World} (hT : KTab w) (hn : l.length = n) (hbig : n ≤ 80000) (hr : InRow w (.slice A n c) l) :
    Calls Tryz.prog 271 #[.slice A n c] w (GTold l w) := by
  have HR := Lib.hid hr
  have HN := Lib.hid hn
  have HT := Lib.hid hT
  clear hr hn hT
  go_enter Tryz.func271, Tryz.ntmps271
  go_wp2_with fail
  have HA := Lib.hid ((Below.refl w.heap.size w).alloc (Nat.le_refl _) (.cells #[.slice none 0 0, .slice none 0 0, .slice none 0 0] 258))
  have HRES : Hid ((w.alloc (.cells #[.slice none 0 0, .slice none 0 0, .slice none 0 0] 258)).heap[w.heap.size]? = some (.cells #[.slice none 0 0, .slice none 0 0, .slice none 0 0] 258 (0, 0))) := heap_new _ _
  have HSZ : Hid ((w.alloc (.cells #[.slice none 0 0, .slice none 0 0, .slice none 0 0] 258)).heap.size = w.heap.size + 1) := size_new _ _
  have HNEW := Lib.hid (NAt.new (w.alloc (.cells #[.slice none 0 0, .slice none 0 0, .slice none 0 0] 258)))
  have HB0 := Lib.hid ((Below.refl (w.alloc (.cells #[.slice none 0 0, .slice none 0 0, .slice none 0 0] 258)).heap.size (w.alloc (.cells #[.slice none 0 0, .slice none 0 0, .slice none 0 0] 258))).alloc (Nat.le_refl _) (.cells #[.slice none 0 0, .slice none 0 0, .slice none 0 0] 258))
  have HIR := Lib.hid ((HR.out.keep (HA.out.mono (Nat.le_refl _))))
  have HT0 := Lib.hid (HT.out.keep HA.out)
  clear HR HT
  generalize (w.alloc (.cells #[.slice none 0 0, .slice none 0 0, .slice none 0 0] 258)) = w0 at *
  obtain ⟨r, hr⟩ : ∃ r, w.heap.size = r := ⟨_, rfl⟩
  have HR0 := Lib.hid hr
  rw [hr] at HRES HSZ ⊢
  have HNEW2 : Hid (∀ q, q = w0.heap.size → NAt (w0.alloc (.cells #[.slice none 0 0, .slice none 0 0, .slice none 0 0] 258)) w0.heap.size q (.slice none 0 0) (.slice none 0 0) (.slice none 0 0) ⟨[], [], []⟩) := fun q hq => hq ▸ HNEW.out
  clear hr
  go_loopw [9] (fun i' wr => ∃ (i : Nat) (vM vD vS : Value) (n1 : Nst), i' = .int .i64 (i : Int) ∧ i ≤ n ∧ nst (opsL l) i = some n1 ∧ NAt wr w0.heap.size (r + 1) vM vD vS n1 ∧ Below w0.heap.size w0 wr) (fun i' _ => n - (intOf i').toNat)
  case atStart => exact ⟨0, _, _, _, _, by go_num, Nat.zero_le _, rfl, HNEW2.out _ HSZ.out.symm, HB0.out⟩
  case round =>
    clear HNEW HNEW2 HB0
    obtain ⟨i, vM, vD, vS, n1, rfl, hi, hn1, hN, hB⟩ := hrel
    have HN1 := Lib.hid hN
    have HB1 := Lib.hid hB
    have HNS := Lib.hid hn1
    have hRS := (hB.block r (by have := HSZ.out; omega)).trans HRES.out
    have HRW := Lib.hid hRS
    clear hN hB hn1 hRS
    by_cases hlt : i < n
    · obtain ⟨y, hy⟩ : ∃ y, l[i]? = some y := ⟨_, List.getElem?_eq_getElem (by rw [HN.out]; exact hlt)⟩
      obtain ⟨g, off, rfl, hC, hO⟩ := (HIR.out.keep HB1.out).at_ hy
      have HG := Lib.hid (opsL_get hy)
      obtain ⟨PL, cL, hpo, _⟩ := id hO.1
      obtain ⟨x, ov⟩ := y
      simp only at hpo
      obtain ⟨nL, hnL⟩ : ∃ nL, x.L.length = nL := ⟨_, rfl⟩
      rw [hnL] at hpo
      subst hpo
      clear hy hnL hO
      obtain ⟨q1, q2, q3, q4, q5⟩ := hC
      simp only at q1 q2 q3 q4 q5
      have hin1 : (0 : Int) ≤ (i : Int) := by omega
      have hin2 : (i : Int) < (n : Int) := by omega
      have hw1 : IntKind.i64.wrap ((i : Int) + 1) = (i : Int) + 1 := IntWalk.i64_in _ (by omega)
      have HLN := Lib.hid (nst_lens HNS.out)
      have HOK := Lib.hid (nst_ok (opsL l) HNS.out)
      have HSTEP : Hid (nst (opsL l) (i + 1) = tk x.op n1) := by
        show _ = _
        have e : nst (opsL l) (i + 1) = (nst (opsL l) i).bind fun n => tk ((opsL l).getD i 0) n := rfl
        rw [e, HNS.out, HG.out]
        rfl
      have HWL : Hid (w0.heap.size ≤ wr.heap.size) := HB1.out.size
      go_wp2_with fail
      have HB2 := Lib.hid (HB1.out.alloc HWL.out (.cells #[.int .i64 x.op, .int .i64 x.A, .int .i64 x.B, .int .u64 x.K, .slice PL nL cL] 67))
      have HN2 := Lib.hid (HN1.out.keep ((Below.refl wr.heap.size wr).alloc (Nat.le_refl _) (.cells #[.int .i64 x.op, .int .i64 x.A, .int .i64 x.B, .int .u64 x.K, .slice PL nL cL] 67)))
      clear q1 q2 q3 q4 q5
      refine (ptake_any x.op HT0.out HB2.out HN2.out HOK.out (by have := HLN.out; omega) (by have := HLN.out; omega)).mono ?_
      rintro en w3 ⟨vM3, vD3, vS3, n3, rfl, hr3, N3, F3, B3⟩
      have HN3 := Lib.hid N3
      have HB3 := Lib.hid (HB2.out.trans B3)
      have HR3 := Lib.hid hr3
      clear hr3 N3 F3 B3
      cases htk : tk x.op n1 with
      | none =>
        have HNO : Hid (nst (opsL l) l.length = none) := by
          refine nst_stop (i := i + 1) ?_ _ (by rw [HN.out]; exact hlt)
          rw [HSTEP.out, htk]
        clear htk
        obtain ⟨Q0, k0, e0, rfl⟩ : ∃ P k c, vM3 = .slice P k c := by
          obtain ⟨P, c, e⟩ := OwnP.form HN3.out.m
          exact ⟨P, _, c, e⟩
        obtain ⟨Q1, k1, e1, rfl⟩ : ∃ P k c, vD3 = .slice P k c := by
          obtain ⟨P, c, e⟩ := OwnI.form HN3.out.d
          exact ⟨P, _, c, e⟩
        obtain ⟨Q2, k2, e2, rfl⟩ : ∃ P k c, vS3 = .slice P k c := by
          obtain ⟨P, c, e⟩ := OwnP.form HN3.out.s
          exact ⟨P, _, c, e⟩
        obtain ⟨c0, c1, c2, _, _, _⟩ := HN3.out.cells
        have hRS := (HB3.out.block r (by have := HSZ.out; omega)).trans HRES.out
        have z0 : w3.cell? ⟨r, 0, none⟩ = some (.slice none 0 0) := (cells_at hRS 0).1
        have y0 : w3.frozen? ⟨r, 0, none⟩ = false := (cells_at hRS 0).2
        have z1 : w3.cell? ⟨r, 1, none⟩ = some (.slice none 0 0) := (cells_at hRS 1).1
        have y1 : w3.frozen? ⟨r, 1, none⟩ = false := (cells_at hRS 1).2
        have z2 : w3.cell? ⟨r, 2, none⟩ = some (.slice none 0 0) := (cells_at hRS 2).1
        have y2 : w3.frozen? ⟨r, 2, none⟩ = false := (cells_at hRS 2).2
        clear hRS
        have HLO : Hid (w.heap.size ≤ w0.heap.size) := HA.out.size
        have HRR : Hid (r < w0.heap.size) := by have := HSZ.out; show _ < _; omega
        have HRQ : Hid (w.heap.size ≤ r) := Nat.le_of_eq HR0.out
        go_wp2_with fail
        refine bodyPost_ret (v := .tuple #[.agg #[.slice Q0 k0 e0, .slice Q1 k1 e1, .slice Q2 k2 e2], .bool false]) (by simp [results, Tryz.results271, go_sem, z0, z1, z2]) rfl ⟨_, _, _, n3, by rw [HNO.out]; rfl, (by rw [HNO.out]; exact fun m hm => by cases hm), ?_, ?_, ?_, ?_⟩
        · exact own_low (own_far (own_far (own_far HN3.out.m HRR.out _) HRR.out _) HRR.out _) HLO.out
        · exact own_low (own_far (own_far (own_far HN3.out.d HRR.out _) HRR.out _) HRR.out _) HLO.out
        · exact own_low (own_far (own_far (own_far HN3.out.s HRR.out _) HRR.out _) HRR.out _) HLO.out
        · exact (((HA.out.trans (HB3.out.mono HLO.out)).setCell (p := ⟨r, 0, none⟩) HRQ.out _).setCell (p := ⟨r, 1, none⟩) HRQ.out _).setCell (p := ⟨r, 2, none⟩) HRQ.out _
      | some n4 =>
        obtain rfl := HR3.out _ htk
        have HNX : Hid (nst (opsL l) (i + 1) = some n3) := HSTEP.out.trans htk
        clear htk
        go_wp2_with fail
        go_roundw
        case rel => exact ⟨i + 1, _, _, _, _, by go_num, hlt, HNX.out, HN3.out, HB3.out⟩
        case measure => simp [intOf]; omega
    · have hin : i = n := by omega
      subst hin
      have HNO : Hid (nst (opsL l) l.length = some n1) := by
        show _ = _
        rw [HN.out]
        exact HNS.out
      have HN3 := HN1
      have HB3 := HB1
      obtain ⟨Q0, k0, e0, rfl⟩ : ∃ P k c, vM = .slice P k c := by
        obtain ⟨P, c, e⟩ := OwnP.form HN3.out.m
        exact ⟨P, _, c, e⟩
      obtain ⟨Q1, k1, e1, rfl⟩ : ∃ P k c, vD = .slice P k c := by
        obtain ⟨P, c, e⟩ := OwnI.form HN3.out.d
        exact ⟨P, _, c, e⟩
      obtain ⟨Q2, k2, e2, rfl⟩ : ∃ P k c, vS = .slice P k c := by
        obtain ⟨P, c, e⟩ := OwnP.form HN3.out.s
        exact ⟨P, _, c, e⟩
      obtain ⟨c0, c1, c2, _, _, _⟩ := HN3.out.cells
      have hRS := HRW.out
      have z0 : wr.cell? ⟨r, 0, none⟩ = some (.slice none 0 0) := (cells_at hRS 0).1
      have y0 : wr.frozen? ⟨r, 0, none⟩ = false := (cells_at hRS 0).2
      have z1 : wr.cell? ⟨r, 1, none⟩ = some (.slice none 0 0) := (cells_at hRS 1).1
      have y1 : wr.frozen? ⟨r, 1, none⟩ = false := (cells_at hRS 1).2
      have z2 : wr.cell? ⟨r, 2, none⟩ = some (.slice none 0 0) := (cells_at hRS 2).1
      have y2 : wr.frozen? ⟨r, 2, none⟩ = false := (cells_at hRS 2).2
      clear hRS
      have HLO : Hid (w.heap.size ≤ w0.heap.size) := HA.out.size
      have HRR : Hid (r < w0.heap.size) := by have := HSZ.out; show _ < _; omega
      have HRQ : Hid (w.heap.size ≤ r) := Nat.le_of_eq HR0.out
      go_wp2_with fail
      refine bodyPost_ret (v := .tuple #[.agg #[.slice Q0 k0 e0, .slice Q1 k1 e1, .slice Q2 k2 e2], .bool true]) (by simp [results, Tryz.results271, go_sem, z0, z1, z2]) rfl ⟨_, _, _, n1, by rw [HNO.out]; rfl, (by rw [HNO.out]; exact fun m hm => Option.some.inj hm), ?_, ?_, ?_, ?_⟩
      · exact own_low (own_far (own_far (own_far HN3.out.m HRR.out _) HRR.out _) HRR.out _) HLO.out
      · exact own_low (own_far (own_far (own_far HN3.out.d HRR.out _) HRR.out _) HRR.out _) HLO.out
      · exact own_low (own_far (own_far (own_far HN3.out.s HRR.out _) HRR.out _) HRR.out _) HLO.out
      · exact (((HA.out.trans (HB3.out.mono HLO.out)).setCell (p := ⟨r, 0, none⟩) HRQ.out _).setCell (p := ⟨r, 1, none⟩) HRQ.out _).setCell (p := ⟨r, 2, none⟩) HRQ.out _
end Go.Proofs.YtffegkjlgeblbaaGreatDoor.Bod
end

section
/- What is nested, by the program: nested, Matches, Depths, walked. -/
namespace Go.Proofs.YtffegkjlgeblbaaGreatDoor.Bod
open Go.RowKit Ints Typ Ins
set_option maxRecDepth 100000
set_option maxHeartbeats 2000000
set_option linter.unusedVariables false
def PNest (l : List (Ins × Value)) (w : World) (e : Ending) (w' : World) : Prop :=
  (match dM (opsL l) with
    | none => e = .returned (.tuple #[.agg #[.slice none 0 0, .slice none 0 0, .slice none 0 0], .bool false])
    | some ms => ∃ vM vD vS, e = .returned (.tuple #[.agg #[vM, vD, vS], .bool true]) ∧ OwnP 282 w' w.heap.size vM ms ∧ OwnI w' w.heap.size vD (depL (opsL l) l.length) ∧ OwnP 284 w' w.heap.size vS []) ∧ Below w.heap.size w w'
theorem dM_not {ops : List Int} (h : ¬ Nested ops) : dM ops = none := by
  cases hd : dM ops with
  | none => rfl
  | some ms => exact absurd (dM_nested hd) h
theorem nested_any {l : List (Ins × Value)} {A : Option Addr} {n c : Nat} {w : World} (hT : KTab w) (hn : l.length = n) (hbig : n ≤ 80000) (hr : InRow w (.slice A n c) l) :
    Calls Tryz.prog 251 #[.slice A n c] w (PNest l w) := by
  have HR := Lib.hid hr
  have HN := Lib.hid hn
  have HT := Lib.hid hT
  clear hr hn hT
  go_enter Tryz.func251, Tryz.ntmps251
  go_wp2_with fail
  have HA := Lib.hid ((Below.refl w.heap.size w).alloc (Nat.le_refl _) (.cells #[.slice none 0 0, .slice none 0 0, .slice none 0 0] 258))
  have HRES : Hid ((w.alloc (.cells #[.slice none 0 0, .slice none 0 0, .slice none 0 0] 258)).heap[w.heap.size]? = some (.cells #[.slice none 0 0, .slice none 0 0, .slice none 0 0] 258 (0, 0))) := heap_new _ _
  have HSZ : Hid ((w.alloc (.cells #[.slice none 0 0, .slice none 0 0, .slice none 0 0] 258)).heap.size = w.heap.size + 1) := size_new _ _
  have HIR := Lib.hid (HR.out.keep HA.out)
  have HT0 := Lib.hid (HT.out.keep HA.out)
  clear HR HT
  generalize (w.alloc (.cells #[.slice none 0 0, .slice none 0 0, .slice none 0 0] 258)) = w0 at *
  obtain ⟨r, hr⟩ : ∃ r, w.heap.size = r := ⟨_, rfl⟩
  have HR0 := Lib.hid hr
  rw [hr] at HRES HSZ ⊢
  clear hr
  refine (gone_any HT0.out HN.out hbig HIR.out).mono ?_
  rintro e w2 ⟨vM, vD, vS, n1, rfl, hn1, oM, oD, oS, hb⟩
  have HB2 := Lib.hid hb
  have HN1 := Lib.hid hn1
  obtain ⟨P0, e0, hv0⟩ := OwnP.form oM
  obtain ⟨P1, e1, hv1⟩ := OwnI.form oD
  obtain ⟨P2, e2, hv2⟩ := OwnP.form oS
  rw [prs_len] at hv2
  obtain ⟨k0, hk0⟩ : ∃ k, n1.M.length = k := ⟨_, rfl⟩
  obtain ⟨k1, hk1⟩ : ∃ k, n1.D.length = k := ⟨_, rfl⟩
  obtain ⟨k2, hk2⟩ : ∃ k, n1.S.length = k := ⟨_, rfl⟩
  rw [hk0] at hv0
  rw [hk1] at hv1
  rw [hk2] at hv2
  subst hv0 hv1 hv2
  have HK2 := Lib.hid hk2
  have HLO : Hid (w.heap.size ≤ w0.heap.size) := HA.out.size
  have HRR : Hid (r < w0.heap.size) := by have := HSZ.out; show _ < _; omega
  have HRQ : Hid (w.heap.size ≤ r) := Nat.le_of_eq HR0.out
  have HB3 := Lib.hid (hb.alloc hb.size (.cells #[.slice P0 k0 e0, .slice P1 k1 e1, .slice P2 k2 e2] 258))
  have HOM := Lib.hid (World.ownsRow.alloc oM (.cells #[.slice P0 k0 e0, .slice P1 k1 e1, .slice P2 k2 e2] 258))
  have HOD := Lib.hid (World.ownsRow.alloc oD (.cells #[.slice P0 k0 e0, .slice P1 k1 e1, .slice P2 k2 e2] 258))
  have HOS := Lib.hid (World.ownsRow.alloc oS (.cells #[.slice P0 k0 e0, .slice P1 k1 e1, .slice P2 k2 e2] 258))
  have hRS := (HB3.out.block r HRR.out).trans HRES.out
  have z0 : (w2.alloc (.cells #[.slice P0 k0 e0, .slice P1 k1 e1, .slice P2 k2 e2] 258)).cell? ⟨r, 0, none⟩ = some (.slice none 0 0) := (cells_at hRS 0).1
  have y0 : (w2.alloc (.cells #[.slice P0 k0 e0, .slice P1 k1 e1, .slice P2 k2 e2] 258)).frozen? ⟨r, 0, none⟩ = false := (cells_at hRS 0).2
  have z1 : (w2.alloc (.cells #[.slice P0 k0 e0, .slice P1 k1 e1, .slice P2 k2 e2] 258)).cell? ⟨r, 1, none⟩ = some (.slice none 0 0) := (cells_at hRS 1).1
  have y1 : (w2.alloc (.cells #[.slice P0 k0 e0, .slice P1 k1 e1, .slice P2 k2 e2] 258)).frozen? ⟨r, 1, none⟩ = false := (cells_at hRS 1).2
  have z2 : (w2.alloc (.cells #[.slice P0 k0 e0, .slice P1 k1 e1, .slice P2 k2 e2] 258)).cell? ⟨r, 2, none⟩ = some (.slice none 0 0) := (cells_at hRS 2).1
  have y2 : (w2.alloc (.cells #[.slice P0 k0 e0, .slice P1 k1 e1, .slice P2 k2 e2] 258)).frozen? ⟨r, 2, none⟩ = false := (cells_at hRS 2).2
  clear hRS hb hn1 oM oD oS hk0 hk1 hk2
  have HBW := Lib.hid (HA.out.trans (HB3.out.mono HLO.out))
  cases hq : nst (opsL l) l.length with
  | none =>
    have HD : Hid (dM (opsL l) = none) := dM_not (nst_none (by rw [opsL_len]; exact hq))
    clear hq
    go_wp2_with fail
    refine bodyPost_ret (v := .tuple #[.agg #[.slice none 0 0, .slice none 0 0, .slice none 0 0], .bool false]) (by simp [results, Tryz.results251, go_sem, z0, z1, z2]) rfl ⟨by rw [HD.out], ?_⟩
    exact ((HBW.out.setCell (p := ⟨r, 0, none⟩) HRQ.out _).setCell (p := ⟨r, 1, none⟩) HRQ.out _).setCell (p := ⟨r, 2, none⟩) HRQ.out _
  | some m1 =>
    obtain rfl := HN1.out _ hq
    cases k2 with
    | succ k2 =>
      have HD : Hid (dM (opsL l) = none) := dM_not (fun hN => by
        have h1 := (nst_nested (ops := opsL l) (n := n1) (by rw [opsL_len]; exact hq)).2 hN
        have h2 := HK2.out
        rw [h1] at h2
        cases h2)
      have t1 : decide ((0 : Int) < ((k2 + 1 : Nat) : Int)) = true := decide_eq_true (by omega)
      have t2 : decide ((0 : Int) < (k2 : Int) + 1) = true := decide_eq_true (by omega)
      clear hq
      go_wp2_with fail
      refine bodyPost_ret (v := .tuple #[.agg #[.slice none 0 0, .slice none 0 0, .slice none 0 0], .bool false]) (by simp [results, Tryz.results251, go_sem, z0, z1, z2]) rfl ⟨by rw [HD.out], ?_⟩
      exact ((HBW.out.setCell (p := ⟨r, 0, none⟩) HRQ.out _).setCell (p := ⟨r, 1, none⟩) HRQ.out _).setCell (p := ⟨r, 2, none⟩) HRQ.out _
    | zero =>
      have hN : Nested (opsL l) := (nst_nested (ops := opsL l) (n := n1) (by rw [opsL_len]; exact hq)).1 (List.length_eq_zero_iff.1 HK2.out)
      obtain ⟨ms, hms, hall⟩ := nst_all hN
      rw [opsL_len] at hall
      have hall := Option.some.inj (hq.symm.trans hall)
      subst hall
      have HD := Lib.hid hms
      clear hq hN hms
      go_wp2_with fail
      refine bodyPost_ret (v := .tuple #[.agg #[.slice P0 k0 e0, .slice P1 k1 e1, .slice P2 0 e2], .bool true]) (by simp [results, Tryz.results251, go_sem, z0, z1, z2]) rfl ⟨?_, ?_⟩
      · rw [HD.out]
        refine ⟨_, _, _, rfl, ?_, ?_, ?_⟩
        · exact own_low (own_far (own_far (own_far HOM.out HRR.out _) HRR.out _) HRR.out _) HLO.out
        · exact own_low (own_far (own_far (own_far HOD.out HRR.out _) HRR.out _) HRR.out _) HLO.out
        · exact own_low (own_far (own_far (own_far HOS.out HRR.out _) HRR.out _) HRR.out _) HLO.out
      · exact ((HBW.out.setCell (p := ⟨r, 0, none⟩) HRQ.out _).setCell (p := ⟨r, 1, none⟩) HRQ.out _).setCell (p := ⟨r, 2, none⟩) HRQ.out _
end Go.Proofs.YtffegkjlgeblbaaGreatDoor.Bod
end

section
/- May instructions be, by the document, walked. -/
namespace Go.Proofs.YtffegkjlgeblbaaGreatDoor.Bod
open Go.RowKit Ints Typ Ins
set_option maxRecDepth 100000
set_option maxHeartbeats 1000000
set_option linter.unusedVariables false

def SaneB (l : List (Ins × Value)) : Prop := (∃ ms, dM (opsL l) = some ms) ∧ l.length ≤ 4096 ∧ ∀ q p, l[q]? = some p → saneI p.1 = true ∧ (aroundD (opsL l) q).length ≤ 32
end Go.Proofs.YtffegkjlgeblbaaGreatDoor.Bod
end

section
/- What is nested: ends in one another, as many as open; what one stands in; bodies behind and in bodies. Plain lists. -/
namespace Go.Proofs.YtffegkjlgeblbaaGreatDoor.Bod
set_option maxRecDepth 100000
set_option maxHeartbeats 1000000
set_option linter.unusedVariables false

def mv (c : Nat) (a : Nat × Bool × Int) : Nat × Bool × Int := (a.1 + c, a.2.1, if a.2.2 < 0 then a.2.2 else a.2.2 + (c : Int))
def shS (c : Nat) (T S : Stk) : Stk := S.map (mv c) ++ T
theorem step_shift {c p : Nat} {op : Int} {T S S' : Stk} (h : stepS p op S = some S') : stepS (p + c) op (shS c T S) = some (shS c T S') := by
  unfold stepS at h ⊢
  by_cases h1 : opn op = true
  · rw [if_pos h1] at h ⊢
    rw [← Option.some.inj h]
    rfl
  · rw [if_neg h1] at h ⊢
    by_cases h2 : op = 5
    · rw [if_pos h2] at h ⊢
      cases S with
      | nil => cases h
      | cons a S =>
        obtain ⟨k, f, o⟩ := a
        cases f with
        | false => cases h
        | true =>
          simp only at h
          by_cases h3 : o < 0
          · rw [if_pos h3] at h
            rw [← Option.some.inj h]
            have e1 : mv c (k, true, o) = (k + c, true, o) := by simp [mv, h3]
            have e2 : mv c (k, true, (p : Int)) = (k + c, true, ((p + c : Nat) : Int)) := by
              simp only [mv]
              rw [if_neg (by omega)]
              simp
            simp only [shS, List.map_cons, List.cons_append, e1, e2]
            rw [if_pos h3]
          · rw [if_neg h3] at h; cases h
    · rw [if_neg h2] at h ⊢
      by_cases h3 : op = 11
      · rw [if_pos h3] at h ⊢
        cases S with
        | nil => cases h
        | cons a S =>
          simp only at h
          rw [← Option.some.inj h]
          rfl
      · rw [if_neg h3] at h ⊢
        rw [← Option.some.inj h]
theorem getD_mid {a m z : List Int} {p : Nat} (hp : p < m.length) : (a ++ m ++ z).getD (p + a.length) 0 = m.getD p 0 := by
  rw [List.getD_eq_getElem?_getD, List.getD_eq_getElem?_getD, List.append_assoc, List.getElem?_append_right (by omega), List.getElem?_append_left (by omega), Nat.add_sub_cancel]
theorem st_shift {a m z : List Int} {T : Stk} (hT : st (a ++ m ++ z) a.length = some T) : ∀ {p : Nat} {S : Stk}, p ≤ m.length → st m p = some S → st (a ++ m ++ z) (p + a.length) = some (shS a.length T S)
  | 0, S, _, h => by
    obtain rfl := Option.some.inj h
    rw [Nat.zero_add]
    exact hT
  | p + 1, S, hp, h => by
    obtain ⟨S0, h0⟩ := st_before h
    have ih := st_shift hT (p := p) (by omega) h0
    have hs := st_succ h0 h
    have e : st (a ++ m ++ z) (p + 1 + a.length) = (st (a ++ m ++ z) (p + a.length)).bind fun S => stepS (p + a.length) ((a ++ m ++ z).getD (p + a.length) 0) S := by
      rw [show p + 1 + a.length = p + a.length + 1 from by omega]
      rfl
    rw [e, ih, getD_mid (by omega)]
    exact step_shift hs
theorem st_front {a z : List Int} : ∀ {p : Nat}, p ≤ a.length → st (a ++ z) p = st a p
  | 0, _ => rfl
  | p + 1, hp => by
    have e1 : st (a ++ z) (p + 1) = (st (a ++ z) p).bind fun S => stepS p ((a ++ z).getD p 0) S := rfl
    have e2 : st a (p + 1) = (st a p).bind fun S => stepS p (a.getD p 0) S := rfl
    rw [e1, e2, st_front (p := p) (by omega)]
    have : (a ++ z).getD p 0 = a.getD p 0 := by
      rw [List.getD_eq_getElem?_getD, List.getD_eq_getElem?_getD, List.getElem?_append_left (by omega)]
    rw [this]
end Go.Proofs.YtffegkjlgeblbaaGreatDoor.Bod
end

section
/- What an instruction stands in, by the program: walked. -/
namespace Go.Proofs.YtffegkjlgeblbaaGreatDoor.Bod
open Go.RowKit Ints Typ Ins
set_option maxRecDepth 100000
set_option maxHeartbeats 2000000
set_option linter.unusedVariables false
theorem nst_front {a z : List Int} : ∀ {p : Nat}, p ≤ a.length → nst (a ++ z) p = nst a p
  | 0, _ => rfl
  | p + 1, hp => by
    have e1 : nst (a ++ z) (p + 1) = (nst (a ++ z) p).bind fun n => tk ((a ++ z).getD p 0) n := rfl
    have e2 : nst a (p + 1) = (nst a p).bind fun n => tk (a.getD p 0) n := rfl
    rw [e1, e2, nst_front (p := p) (by omega)]
    have : (a ++ z).getD p 0 = a.getD p 0 := by
      rw [List.getD_eq_getElem?_getD, List.getD_eq_getElem?_getD, List.getElem?_append_left (by omega)]
    rw [this]
end Go.Proofs.YtffegkjlgeblbaaGreatDoor.Bod
end

section
/- Are instructions the same, by the program: walked. -/
namespace Go.Proofs.YtffegkjlgeblbaaGreatDoor.Bod
open Go.RowKit Ints Typ Ins
set_option maxRecDepth 100000
set_option maxHeartbeats 2000000
set_option linter.unusedVariables false
theorem eqf_any {a b : List (Ins × Value)} {A B : Option Addr} {n c d : Nat} {w : World} (hn1 : a.length = n) (hn2 : b.length = n) (hbig : n ≤ 80000) (ha : InRow w (.slice A n c) a) (hb : InRow w (.slice B n d) b) :
    Calls Tryz.prog 168 #[.slice A n c, .slice B n d, .func (.func 108) #[] #[]] w fun e w' => (∃ r : Bool, e = .returned (.bool r) ∧ (r = true ↔ insL a = insL b)) ∧ Below w.heap.size w w' := by
  have hrun : ∀ args W, (callFunc 108 args).run Tryz.prog W = .ok (.enter 108 args) W := fun args W => Stab.run_enter Tryz.func108 (by kernel_rfl) rfl args W
  have HN := Lib.hid hn1
  have HM := Lib.hid hn2
  have HA := Lib.hid ha
  have HB := Lib.hid hb
  clear hn1 hn2 ha hb
  go_enter Tryz.func168, Tryz.ntmps168
  go_wp2_with fail
  go_loopw [17] (fun j' wr => ∃ k : Nat, j' = .int .i64 (k : Int) ∧ k ≤ n ∧ (∀ i, i < k → (insL a)[i]? = (insL b)[i]?) ∧ Below w.heap.size w wr) (fun j' _ => n - (intOf j').toNat)
  case atStart => exact ⟨0, by go_num, Nat.zero_le _, fun i hi => absurd hi (by omega), Below.refl _ _⟩
  case round =>
    obtain ⟨k, rfl, hk, ht, hW⟩ := hrel
    have HALL := Lib.hid ht
    have HW := Lib.hid hW
    clear ht hW
    by_cases hlt : k < n
    · obtain ⟨x, hx⟩ : ∃ y, a[k]? = some y := ⟨_, List.getElem?_eq_getElem (by rw [HN.out]; exact hlt)⟩
      obtain ⟨y, hy⟩ : ∃ y, b[k]? = some y := ⟨_, List.getElem?_eq_getElem (by rw [HM.out]; exact hlt)⟩
      have HX := Lib.hid (insL_get hx)
      have HY := Lib.hid (insL_get hy)
      obtain ⟨g1, f1, rfl, hC1, hO1⟩ := (HA.out.keep HW.out).at_ hx
      obtain ⟨g2, f2, rfl, hC2, hO2⟩ := (HB.out.keep HW.out).at_ hy
      obtain ⟨P1, c1, hp1, _⟩ := id hO1.1
      obtain ⟨P2, c2, hp2, _⟩ := id hO2.1
      have HO1 := Lib.hid hO1
      have HO2 := Lib.hid hO2
      obtain ⟨x, ox⟩ := x
      obtain ⟨y, oy⟩ := y
      simp only at hp1 hp2 HX HY
      obtain ⟨n1, hn1⟩ : ∃ m, x.L.length = m := ⟨_, rfl⟩
      obtain ⟨n2, hn2⟩ : ∃ m, y.L.length = m := ⟨_, rfl⟩
      rw [hn1] at hp1
      rw [hn2] at hp2
      subst hp1 hp2
      clear hx hy hn1 hn2 hO1 hO2
      obtain ⟨q1, q2, q3, q4, q5⟩ := hC1
      obtain ⟨r1, r2, r3, r4, r5⟩ := hC2
      simp only at q1 q2 q3 q4 q5 r1 r2 r3 r4 r5
      have hin1 : (0 : Int) ≤ (k : Int) := by omega
      have hin2 : (k : Int) < (n : Int) := by omega
      have hw1 : IntKind.i64.wrap ((k : Int) + 1) = (k : Int) + 1 := IntWalk.i64_in _ (by omega)
      have hb1 := (Below.refl wr.heap.size wr).alloc (Nat.le_refl _) (.cells #[.int .i64 x.op, .int .i64 x.A, .int .i64 x.B, .int .u64 x.K, .slice P1 n1 c1] 67)
      have hb2 := hb1.alloc hb1.size (.cells #[.int .i64 y.op, .int .i64 y.A, .int .i64 y.B, .int .u64 y.K, .slice P2 n2 c2] 67)
      have HB2 := Lib.hid hb2
      have hAl := fun {g o : Nat} {p : Ins × Value} (h : InCells wr g o p) => h
      have HCS := Lib.hid (psame_any (HO1.out.1.keep hb2) (HO2.out.1.keep hb2))
      have r1' := Lib.cell?_alloc_some (.cells #[.int .i64 x.op, .int .i64 x.A, .int .i64 x.B, .int .u64 x.K, .slice P1 n1 c1] 67) r1
      have r2' := Lib.cell?_alloc_some (.cells #[.int .i64 x.op, .int .i64 x.A, .int .i64 x.B, .int .u64 x.K, .slice P1 n1 c1] 67) r2
      have r3' := Lib.cell?_alloc_some (.cells #[.int .i64 x.op, .int .i64 x.A, .int .i64 x.B, .int .u64 x.K, .slice P1 n1 c1] 67) r3
      have r4' := Lib.cell?_alloc_some (.cells #[.int .i64 x.op, .int .i64 x.A, .int .i64 x.B, .int .u64 x.K, .slice P1 n1 c1] 67) r4
      have r5' := Lib.cell?_alloc_some (.cells #[.int .i64 x.op, .int .i64 x.A, .int .i64 x.B, .int .u64 x.K, .slice P1 n1 c1] 67) r5
      clear hb1 hb2 hAl
      go_wp2_with fail
      refine HCS.out.mono ?_
      rintro e w1 ⟨rfl, hb⟩
      have HW1 := Lib.hid (HW.out.trans ((HB2.out.trans (hb.mono HB2.out.size)).mono HW.out.size))
      clear hb q1 q2 q3 q4 q5 r1 r2 r3 r4 r5 r1' r2' r3' r4' r5' HCS HB2
      cases hs : smI x y with
      | false =>
        have HQ : Hid (false = true ↔ insL a = insL b) := ⟨fun h => (by cases h), fun h => by
          have h1 := HX.out
          rw [h, HY.out] at h1
          rw [← Option.some.inj h1, smI_eq.2 rfl] at hs
          cases hs⟩
        clear hs
        go_wp2_with fail
        exact bodyPost_ret (v := .bool false) (by simp [results, Tryz.results168, go_sem]) rfl ⟨⟨_, rfl, HQ.out⟩, HW1.out⟩
      | true =>
        have HQ : Hid (∀ i, i < k + 1 → (insL a)[i]? = (insL b)[i]?) := fun i hi => by
          by_cases e : i = k
          · subst e
            rw [HX.out, HY.out, smI_eq.1 hs]
          · exact HALL.out i (by omega)
        clear hs
        go_wp2_with fail
        go_roundw
        case rel => exact ⟨k + 1, by go_num, hlt, HQ.out, HW1.out⟩
        case measure => simp [intOf]; omega
    · have hkn : k = n := by omega
      subst hkn
      have HQ : Hid (true = true ↔ insL a = insL b) := ⟨fun _ => by
        apply List.ext_getElem?
        intro i
        by_cases hi : i < k
        · exact HALL.out i hi
        · rw [List.getElem?_eq_none (by rw [insL_len, HN.out]; omega), List.getElem?_eq_none (by rw [insL_len, HM.out]; omega)], fun _ => rfl⟩
      go_wp2_with fail
      exact bodyPost_ret (v := .bool true) (by simp [results, Tryz.results168, go_sem]) rfl ⟨by first | exact ⟨_, rfl, HQ.out⟩ | exact .inr ⟨rfl, by have h := HQ.out; simpa using h⟩, HW.out⟩
theorem eqf_all {a b : List (Ins × Value)} {A B : Option Addr} {n m c d : Nat} {w : World} (hn1 : a.length = n) (hn2 : b.length = m) (hbig : n ≤ 80000) (ha : InRow w (.slice A n c) a) (hb : InRow w (.slice B m d) b) :
    Calls Tryz.prog 168 #[.slice A n c, .slice B m d, .func (.func 108) #[] #[]] w fun e w' => (∃ r : Bool, e = .returned (.bool r) ∧ (r = true ↔ insL a = insL b)) ∧ Below w.heap.size w w' := by
  by_cases h : n = m
  · subst h
    exact eqf_any hn1 hn2 hbig ha hb
  · have HQ : Hid (false = true ↔ insL a = insL b) := ⟨fun h => (by cases h), fun e => by
      have := congrArg List.length e
      rw [insL_len, insL_len, hn1, hn2] at this
      exact absurd this h⟩
    have t1 : ((n : Int) != (m : Int)) = true := by simp; omega
    have t1' : (n != m) = true := by simpa using h
    clear h hn1 hn2 ha hb
    go_enter Tryz.func168, Tryz.ntmps168
    go_wp2_with fail
    exact bodyPost_ret (v := .bool false) (by simp [results, Tryz.results168, go_sem]) rfl ⟨⟨_, rfl, HQ.out⟩, Below.refl _ _⟩
theorem bsameP_any {a b : List (Ins × Value)} {o p : Value} {w : World} (hbig : a.length ≤ 80000) (ha : InRow w o a) (hb : InRow w p b) : Calls Tryz.prog 110 #[o, p] w fun e w' => (∃ r : Bool, e = .returned (.bool r) ∧ (r = true ↔ insL a = insL b)) ∧ Below w.heap.size w w' := by
  obtain ⟨⟨A, c, rfl, _⟩, _⟩ := id ha
  obtain ⟨⟨B, d, rfl, _⟩, _⟩ := id hb
  have HC := Lib.hid (eqf_all rfl rfl hbig ha hb)
  generalize a.length = n at HC
  generalize b.length = m at HC
  clear ha hb hbig
  go_enter Tryz.func110, Tryz.ntmps110
  go_wp2_with fail
  refine HC.out.mono ?_
  rintro e w1 ⟨⟨r, rfl, hr⟩, hb⟩
  have HR := Lib.hid hr
  have HB := Lib.hid hb
  clear hr hb
  go_wp2_with fail
  exact bodyPost_ret (v := .bool r) (by simp [results, Tryz.results110, go_sem]) rfl ⟨⟨_, rfl, HR.out⟩, HB.out⟩
end Go.Proofs.YtffegkjlgeblbaaGreatDoor.Bod
end

section
/- Instructions laid, by the document, walked. -/
namespace Go.Proofs.YtffegkjlgeblbaaGreatDoor.Bod
open Go.RowKit Ints Typ Ins
set_option maxRecDepth 100000
set_option maxHeartbeats 1000000
set_option linter.unusedVariables false

def ibs (l : List (Ins × Value)) : List Int := l.flatMap fun p => ib p.1
theorem ibs_take {l : List (Ins × Value)} {i : Nat} {p : Ins × Value} (h : l[i]? = some p) : ibs (l.take (i + 1)) = ibs (l.take i) ++ ib p.1 := by
  unfold ibs
  rw [List.take_add_one, h, List.flatMap_append]
  simp
theorem ibs_len {l : List (Ins × Value)} (hu : ∀ p ∈ l, u64R p.1.K) (hs : ∀ p ∈ l, saneI p.1 = true) : (ibs l).length ≤ 700 * l.length := by
  induction l with
  | nil => simp [ibs]
  | cons p l ih =>
    have h1 := (ib_facts (hu p (by simp)) (hs p (by simp))).2.1
    have h2 := ih (fun q hq => hu q (by simp [hq])) (fun q hq => hs q (by simp [hq]))
    unfold ibs at h2 ⊢
    rw [List.flatMap_cons, List.length_append, List.length_cons]
    omega
end Go.Proofs.YtffegkjlgeblbaaGreatDoor.Bod
end
