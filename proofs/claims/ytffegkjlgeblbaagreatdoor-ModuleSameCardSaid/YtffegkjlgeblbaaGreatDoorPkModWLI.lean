/- ModWA2, ModWA3, ModWX, ModWList, ModWLI. -/
import Derived.Test.YtffegkjlgeblbaaGreatDoorPkModEq
import Derived.Test.YtffegkjlgeblbaaGreatDoorPkUtfCame
import Derived.Test.YtffegkjlgeblbaaGreatDoorPkTypPutL
import Derived.Test.YtffegkjlgeblbaaGreatDoorPkTypSame
import Derived.Test.YtffegkjlgeblbaaGreatDoorBodPutP
import Derived.Test.YtffegkjlgeblbaaGreatDoorPkModPList
section
/- The program's writer: names, types of values, flags, kinds, tables, functions' types. -/
namespace Go.Proofs.YtffegkjlgeblbaaGreatDoor.Mdl
open Go.RowKit Ints Typ Ins
set_option maxRecDepth 100000
set_option maxHeartbeats 4000000
set_option linter.unusedVariables false
theorem vl_one (v : Int) : vl [v] 0 = bif isV v then (v, 1, 0) else (0, 0, 3) := vl_in (l := [v]) (k := 0) (by simp)
theorem wval {w : World} {g : Nat} {b : List Int} {bad : Bool} (v : Int) (h : WS w g b bad) :
    Calls Tryz.prog 196 #[.pointer (some ⟨g, 0, none⟩), .int .u8 v] w (WTold g b bad (isV v) [v] w) := by
  have H := Lib.hid h
  have HA := Lib.hid ((Below.refl w.heap.size w).alloc (Nat.le_refl _) (.cells #[.int .u8 v] 5))
  have HS1 : Hid (Sl (w.alloc (.cells #[.int .u8 v] 5)) (.slice (some ⟨w.heap.size, 0, none⟩) 1 1) [v]) := Lib.hid (Bod.one_sl w v)
  have HV := Lib.hid (val_any _ [v] 0 _ HS1.out (by simp))
  obtain ⟨W1, hW1⟩ : ∃ W, w.alloc (.cells #[.int .u8 v] 5) = W := ⟨_, rfl⟩
  have HZ : Hid (W1.heap.size = w.heap.size + 1) := Lib.hid (by rw [← hW1]; simp)
  rw [hW1] at HA HV
  have HA2 := Lib.hid (HA.out.alloc HA.out.size (.cells #[.int .u8 v] 5))
  have HS2 : Hid (Sl (W1.alloc (.cells #[.int .u8 v] 5)) (.slice (some ⟨W1.heap.size, 0, none⟩) 1 1) [v]) := Lib.hid (Bod.one_sl W1 v)
  rw [vl_one] at HV
  have HW1 := Lib.hid hW1
  clear h hW1
  cases hv : isV v with
  | true =>
    rw [hv] at HV
    simp only [cond_true] at HV
    clear hv
    go_enter Tryz.func196, Tryz.ntmps196
    go_wp2_with fail
    rw [HW1.out]
    refine HV.out.mono ?_
    rintro en w1 ⟨rfl, rfl⟩
    go_wp2_with fail
    refine (wput 0 (H.out.keep HA2.out) HS2.out (by simp)).mono ?_
    rintro en w3 ⟨b', bad', rfl, e2, e3, e4⟩
    have HE := Lib.hid (show WTold g b bad true [v] w (.returned (.tuple #[])) w3 from ⟨b', bad', rfl, e2, e3, (WFr.of_below HA2.out H.out.lt).trans e4⟩)
    clear e2 e3 e4
    go_wp2_with fail
    exact bodyPost_end (v := .tuple #[]) (by simp [results, Tryz.results196, go_sem]) rfl HE.out
  | false =>
    rw [hv] at HV
    simp only [cond_false] at HV
    clear hv
    go_enter Tryz.func196, Tryz.ntmps196
    go_wp2_with fail
    rw [HW1.out]
    refine HV.out.mono ?_
    rintro en w1 ⟨rfl, rfl⟩
    go_wp2_with fail
    refine (wput 3 (H.out.keep HA2.out) HS2.out (by simp)).mono ?_
    rintro en w3 hq
    have HE := Lib.hid (WTold.low (WFr.of_below HA2.out H.out.lt) (WTold.bad (x := [v]) hq))
    obtain ⟨b', bad', rfl, _, _, _⟩ := hq
    go_wp2_with fail
    exact bodyPost_end (v := .tuple #[]) (by simp [results, Tryz.results196, go_sem]) rfl HE.out
end Go.Proofs.YtffegkjlgeblbaaGreatDoor.Mdl
end

section
/- The program's writer: names, types of values, flags, kinds, tables, functions' types. -/
namespace Go.Proofs.YtffegkjlgeblbaaGreatDoor.Mdl
open Go.RowKit Ints Typ Ins
set_option maxRecDepth 100000
set_option maxHeartbeats 4000000
set_option linter.unusedVariables false
def flB (on : Bool) : List Int := bif on then [1] else [0]
theorem wflag {w : World} {g : Nat} {b : List Int} {bad : Bool} (on : Bool) (h : WS w g b bad) :
    Calls Tryz.prog 197 #[.pointer (some ⟨g, 0, none⟩), .bool on] w (WTold g b bad true (flB on) w) := by
  have H1 := Lib.hid (wnumA 1 h)
  have H0 := Lib.hid (wnumA 0 h)
  rw [show okU 1 = true from rfl, show (1 : Int).toNat = 1 from rfl, Leb.uB_small (by omega)] at H1
  rw [show okU 0 = true from rfl, show (0 : Int).toNat = 0 from rfl, Leb.uB_small (by omega)] at H0
  clear h
  cases on with
  | true =>
    go_enter Tryz.func197, Tryz.ntmps197
    go_wp2_with fail
    refine H1.out.mono ?_
    rintro en w3 ⟨b', bad', rfl, e2, e3, e4⟩
    have HE := Lib.hid (show WTold g b bad true [1] w (.returned (.tuple #[])) w3 from ⟨b', bad', rfl, e2, e3, e4⟩)
    clear e2 e3 e4
    go_wp2_with fail
    exact bodyPost_end (v := .tuple #[]) (by simp [results, Tryz.results197, go_sem]) rfl HE.out
  | false =>
    go_enter Tryz.func197, Tryz.ntmps197
    go_wp2_with fail
    refine H0.out.mono ?_
    rintro en w3 ⟨b', bad', rfl, e2, e3, e4⟩
    have HE := Lib.hid (show WTold g b bad true [0] w (.returned (.tuple #[])) w3 from ⟨b', bad', rfl, e2, e3, e4⟩)
    clear e2 e3 e4
    go_wp2_with fail
    exact bodyPost_end (v := .tuple #[]) (by simp [results, Tryz.results197, go_sem]) rfl HE.out
def okK (k : Int) : Bool := decide (k ≤ 3) && okU k
theorem wkind {w : World} {g : Nat} {b : List Int} {bad : Bool} (k : Int) (h : WS w g b bad) :
    Calls Tryz.prog 195 #[.pointer (some ⟨g, 0, none⟩), .int .i64 k] w (WTold g b bad (okK k) (Leb.uB k.toNat) w) := by
  unfold okK
  obtain ⟨ok, hok⟩ : ∃ r, decide (k ≤ 3) = r := ⟨_, rfl⟩
  rw [hok]
  have HWN := Lib.hid (wneed ok h)
  have HD := Lib.hid (h.set1 (bad || !ok))
  have HP := Lib.hid (Puts.need bad ok h.le)
  obtain ⟨W1, hW1⟩ : ∃ W, w.setCell ⟨g, 1, none⟩ (.bool (bad || !ok)) = W := ⟨_, rfl⟩
  have HFR : Hid (WFr g w W1) := Lib.hid (by rw [← hW1]; exact (WFr.refl g w).setCell _ _)
  rw [hW1] at HD HWN
  have HN := Lib.hid (wnumA k HD.out)
  clear hW1 h
  go_enter Tryz.func195, Tryz.ntmps195
  go_wp2_with fail
  refine HWN.out.mono ?_
  rintro en w1 ⟨rfl, hw1⟩
  obtain rfl : W1 = w1 := hw1.symm
  go_wp2_with fail
  refine HN.out.mono ?_
  rintro en w3 hq
  have HE := Lib.hid (WTold.next HP.out HFR.out hq)
  obtain ⟨b', bad', rfl, _, _, _⟩ := hq
  go_wp2_with fail
  exact bodyPost_end (v := .tuple #[]) (by simp [results, Tryz.results195, go_sem]) rfl HE.out
end Go.Proofs.YtffegkjlgeblbaaGreatDoor.Mdl
end

section
/- The program's writer: expressions. -/
namespace Go.Proofs.YtffegkjlgeblbaaGreatDoor.Mdl
open Go.RowKit Ints Typ Ins
set_option maxRecDepth 100000
set_option maxHeartbeats 4000000
set_option linter.unusedVariables false
theorem isX_iff {op : Int} : isX op = true ↔ op = 35 ∨ op = 65 ∨ op = 66 := by unfold isX; simp [or_assoc]
theorem sane_one {x : Ins} {o : Value} (hx : isX x.op = true) : Bod.SaneB [(x, o)] ↔ saneI x = true := by
  constructor
  · intro h
    exact (h.2.2 0 (x, o) rfl).1
  · intro h
    have e : Bod.opsL [(x, o)] = [x.op] := rfl
    refine ⟨?_, by simp, fun q p hq => ?_⟩
    · rw [e]
      rcases isX_iff.1 hx with e1 | e1 | e1 <;> rw [e1] <;> exact ⟨_, rfl⟩
    · obtain rfl : q = 0 := by
        have := (List.getElem?_eq_some_iff.1 hq).1
        simpa using this
      obtain rfl := Option.some.inj hq
      refine ⟨h, ?_⟩
      rw [e]
      rcases isX_iff.1 hx with e1 | e1 | e1 <;> rw [e1] <;> decide
def okX (x : Ins) : Bool := isX x.op && saneI x
theorem isinit_any (op : Int) (w : World) : Calls Tryz.prog 218 #[.int .i64 op] w fun en w' => en = .returned (.bool (isX op)) ∧ w = w' := by
  unfold isX
  cases h1 : (op == 35) <;> cases h2 : (op == 65) <;> cases h3 : (op == 66) <;> (
    go_enter Tryz.func218, Tryz.ntmps218
    go_wp2_with fail
    go_ret
    exact ⟨rfl, rfl⟩)
theorem row1 {w : World} {x : Ins} {o : Value} (hi : InOk w (x, o)) : InRow (w.alloc (.cells #[.int .i64 x.op, .int .i64 x.A, .int .i64 x.B, .int .u64 x.K, o] 67)) (.slice (some ⟨w.heap.size, 0, none⟩) 1 1) [(x, o)] := by
  refine ⟨⟨_, 1, rfl, Nat.le_refl _, by decide, fun _ => ⟨w.heap.size, 0, rfl, by simp, fun j p hp => ?_⟩⟩, fun p hp => ?_⟩
  · obtain rfl : j = 0 := by
      have := (List.getElem?_eq_some_iff.1 hp).1
      simpa using this
    obtain rfl := Option.some.inj hp
    exact ⟨(Sec.cells_at (Sec.heap_new w _) 0).1, (Sec.cells_at (Sec.heap_new w _) 1).1, (Sec.cells_at (Sec.heap_new w _) 2).1, (Sec.cells_at (Sec.heap_new w _) 3).1, (Sec.cells_at (Sec.heap_new w _) 4).1⟩
  · obtain rfl := List.mem_singleton.1 hp
    exact hi.keep ((Below.refl _ _).alloc (Nat.le_refl _) _)
theorem wexpr {w0 w : World} {g : Nat} {b : List Int} {bad : Bool} {x : Ins} {o : Value} (hT : KTab w0) (hTg : 1 < w0.heap.size) (hi : InOk w0 (x, o)) (hb : Below w0.heap.size w0 w) (hg : w0.heap.size ≤ g) (h : WS w g b bad) :
    Calls Tryz.prog 202 #[.pointer (some ⟨g, 0, none⟩), .agg #[.int .i64 x.op, .int .i64 x.A, .int .i64 x.B, .int .u64 x.K, o]] w (WTold g b bad (okX x) (ib x ++ [11]) w) := by
  have HI := Lib.hid hi
  obtain ⟨⟨A0, k0, e0, hjunk⟩, hu0⟩ := id hi
  simp only at e0
  obtain ⟨n0, hn0⟩ : ∃ n, x.L.length = n := ⟨_, rfl⟩
  rw [hn0] at e0
  subst e0
  clear hjunk hn0 hi
  have HA := Lib.hid ((Below.refl w.heap.size w).alloc (Nat.le_refl _) (.cells #[.int .i64 x.op, .int .i64 x.A, .int .i64 x.B, .int .u64 x.K, .slice A0 n0 k0] 67))
  have HC : Hid ((w.alloc (.cells #[.int .i64 x.op, .int .i64 x.A, .int .i64 x.B, .int .u64 x.K, .slice A0 n0 k0] 67)).heap[w.heap.size]? = some (.cells #[.int .i64 x.op, .int .i64 x.A, .int .i64 x.B, .int .u64 x.K, .slice A0 n0 k0] 67 (0, 0))) := Lib.hid (Sec.heap_new w _)
  obtain ⟨W0, hW0⟩ : ∃ W, w.alloc (.cells #[.int .i64 x.op, .int .i64 x.A, .int .i64 x.B, .int .u64 x.K, .slice A0 n0 k0] 67) = W := ⟨_, rfl⟩
  have HW0 := Lib.hid hW0
  rw [hW0] at HA HC
  have HS := Lib.hid (h.keep HA.out)
  have HGW : Hid (w.heap.size ≠ g) := Lib.hid (by have := h.lt; omega)
  have HF := Lib.hid (WFr.of_below HA.out h.lt)
  obtain ⟨ok, hok⟩ : ∃ r, isX x.op = r := ⟨_, rfl⟩
  have HOK := Lib.hid hok
  have HIS := Lib.hid fun W => isinit_any x.op W
  rw [hok] at HIS
  have HWN := Lib.hid (wneed ok HS.out)
  have HD := Lib.hid (HS.out.set1 (bad || !ok))
  have HP := Lib.hid (Puts.need bad ok HS.out.le)
  obtain ⟨W1, hW1⟩ : ∃ W, W0.setCell ⟨g, 1, none⟩ (.bool (bad || !ok)) = W := ⟨_, rfl⟩
  have HF1 : Hid (WFr g W0 W1) := Lib.hid (by rw [← hW1]; exact (WFr.refl g W0).setCell _ _)
  rw [hW1] at HD HWN
  have HC1 : Hid (W1.heap[w.heap.size]? = some (.cells #[.int .i64 x.op, .int .i64 x.A, .int .i64 x.B, .int .u64 x.K, .slice A0 n0 k0] 67 (0, 0))) := Lib.hid (HF1.out.block HC.out HGW.out (by decide))
  have HFF := Lib.hid (HF.out.trans HF1.out)
  have HB1 : Hid (Below w0.heap.size w0 W1) := Lib.hid (hb.trans (HFF.out.below.mono hg))
  have HA2 := Lib.hid ((Below.refl W1.heap.size W1).alloc (Nat.le_refl _) (.cells #[.int .i64 x.op, .int .i64 x.A, .int .i64 x.B, .int .u64 x.K, .slice A0 n0 k0] 67))
  have HROW := Lib.hid (row1 (w := W1) (HI.out.keep HB1.out))
  have HT2 : Hid (KTab (W1.alloc (.cells #[.int .i64 x.op, .int .i64 x.A, .int .i64 x.B, .int .u64 x.K, .slice A0 n0 k0] 67))) := Lib.hid ((hT.keep HB1.out).keep HA2.out)
  obtain ⟨W2, hW2⟩ : ∃ W, W1.alloc (.cells #[.int .i64 x.op, .int .i64 x.A, .int .i64 x.B, .int .u64 x.K, .slice A0 n0 k0] 67) = W := ⟨_, rfl⟩
  have HW2 := Lib.hid hW2
  rw [hW2] at HA2 HROW HT2
  have HD2 := Lib.hid (HD.out.keep HA2.out)
  have c0 := (Sec.cells_at HC1.out 0).1
  have c1 := (Sec.cells_at HC1.out 1).1
  have c2 := (Sec.cells_at HC1.out 2).1
  have c3 := (Sec.cells_at HC1.out 3).1
  have c4 := (Sec.cells_at HC1.out 4).1
  have HF2 := Lib.hid (HFF.out.trans (WFr.of_below HA2.out HD.out.lt))
  have HU := Lib.hid hu0
  clear hW0 hW1 hW2 h hb hg hT hTg hok hu0
  by_cases hS : Bod.SaneB [(x, Value.slice A0 n0 k0)]
  · have HPN := Lib.hid (Bod.bputP_yes (b := []) (A0 := none) (c0 := 0) HT2.out rfl HROW.out hS (Sl.nil _) (by simp))
    have HIB : Hid (([] : List Int) ++ Bod.ibs [(x, Value.slice A0 n0 k0)] ++ [11] = ib x ++ [11]) := Lib.hid (by simp [Bod.ibs])
    rw [HIB.out] at HPN
    have HOX : Hid (okX x = (ok && true)) := Lib.hid (by
      unfold okX
      cases ok with
      | true => rw [HOK.out, (sane_one HOK.out).1 hS]
      | false => rw [HOK.out]; rfl)
    have HLL : Hid ((ib x ++ [11]).length ≤ 1000000) := Lib.hid (by
      have := (ib_facts HU.out (hS.2.2 0 _ rfl).1).2.1
      rw [List.length_append, List.length_singleton]
      simp only at this
      omega)
    rw [HOX.out]
    clear hS
    go_enter Tryz.func202, Tryz.ntmps202
    go_wp2_with fail
    rw [HW0.out]
    refine (HIS.out W0).mono ?_
    rintro en w1 ⟨rfl, rfl⟩
    go_wp2_with fail
    refine HWN.out.mono ?_
    rintro en w1 ⟨rfl, hw1⟩
    obtain rfl : W1 = w1 := hw1.symm
    go_wp2_with fail
    rw [HW2.out]
    refine HPN.out.mono ?_
    rintro en w3 ⟨u, rfl, hs, hb⟩
    obtain ⟨Pu, cu, rfl, _⟩ := id hs
    have HSU := Lib.hid hs
    have HB3 := Lib.hid hb
    obtain ⟨nu, hnu⟩ : ∃ k, (ib x ++ [11]).length = k := ⟨_, rfl⟩
    rw [hnu] at HSU ⊢
    clear hs hb hnu
    go_wp2_with fail
    refine (wput 0 (HD2.out.keep HB3.out) HSU.out HLL.out).mono ?_
    rintro en w4 hq
    have HE := Lib.hid (WTold.next HP.out (HF2.out.trans (WFr.of_below HB3.out HD2.out.lt)) hq)
    obtain ⟨b', bad', rfl, _, _, _⟩ := hq
    go_wp2_with fail
    exact bodyPost_end (v := .tuple #[]) (by simp [results, Tryz.results202, go_sem]) rfl HE.out
  · have HPN := Lib.hid (Bod.bputP_no (A0 := none) (c0 := 0) (m := 0) HT2.out rfl HROW.out hS)
    have HOX : Hid (okX x = (ok && false)) := Lib.hid (by
      unfold okX
      cases ok with
      | true =>
        rw [HOK.out]
        cases hq : saneI x with
        | true => exact absurd ((sane_one HOK.out).2 hq) hS
        | false => rfl
      | false => rw [HOK.out]; rfl)
    rw [HOX.out]
    clear hS
    go_enter Tryz.func202, Tryz.ntmps202
    go_wp2_with fail
    rw [HW0.out]
    refine (HIS.out W0).mono ?_
    rintro en w1 ⟨rfl, rfl⟩
    go_wp2_with fail
    refine HWN.out.mono ?_
    rintro en w1 ⟨rfl, hw1⟩
    obtain rfl : W1 = w1 := hw1.symm
    go_wp2_with fail
    rw [HW2.out]
    refine HPN.out.mono ?_
    rintro en w3 ⟨u, rfl, hs, hb⟩
    obtain ⟨Pu, cu, rfl, _⟩ := id hs
    have HSU := Lib.hid hs
    have HB3 := Lib.hid hb
    rw [show ([] : List Int).length = 0 from rfl] at HSU ⊢
    clear hs hb
    go_wp2_with fail
    refine (wput 1 (HD2.out.keep HB3.out) HSU.out (by simp)).mono ?_
    rintro en w4 hq
    have HE := Lib.hid (WTold.next HP.out (HF2.out.trans (WFr.of_below HB3.out HD2.out.lt)) (WTold.bad (x := ib x ++ [11]) hq))
    obtain ⟨b', bad', rfl, _, _, _⟩ := hq
    go_wp2_with fail
    exact bodyPost_end (v := .tuple #[]) (by simp [results, Tryz.results202, go_sem]) rfl HE.out
end Go.Proofs.YtffegkjlgeblbaaGreatDoor.Mdl
end

section
/- The program's lists, laid: walked. -/
namespace Go.Proofs.YtffegkjlgeblbaaGreatDoor.Mdl
open Go.RowKit Ints Typ Ins
set_option maxRecDepth 100000
set_option maxHeartbeats 4000000
set_option linter.unusedVariables false
theorem okU_nat {n : Nat} (h : n ≤ 100000) : okU (n : Int) = true := by unfold okU; exact decide_eq_true ⟨by omega, by omega⟩
theorem all_cut {α : Type} (f : α → Bool) (L : List α) (i : Nat) : L.all f = ((L.take i).all f && (L.drop i).all f) := by
  rw [← List.all_append, List.take_append_drop]
theorem flat_cut {α : Type} (f : α → List Int) (L : List α) (i : Nat) : L.flatMap f = (L.take i).flatMap f ++ (L.drop i).flatMap f := by
  rw [← List.flatMap_append, List.take_append_drop]
theorem all_next {α : Type} (f : α → Bool) {L : List α} {i : Nat} {p : α} (h : L[i]? = some p) : (L.take (i + 1)).all f = ((L.take i).all f && f p) := by
  rw [List.take_add_one, h, List.all_append]
  simp
theorem flat_next {α : Type} (f : α → List Int) {L : List α} {i : Nat} {p : α} (h : L[i]? = some p) : (L.take (i + 1)).flatMap f = (L.take i).flatMap f ++ f p := by
  rw [List.take_add_one, h, List.flatMap_append]
  simp
theorem wlist_Limits (okf : LimT → Bool) (xf : LimT → List Int) (m : Int) (K : Nat) {w0 w : World} {v : Value} {L : List LimT} {g : Nat} {b : List Int} {bad : Bool} (hw : WS w g b bad) (hr : RowG.Row elL w0 v L) (hb : Below w0.heap.size w0 w) (hg : w0.heap.size ≤ g) (hL : L.length ≤ 100000)
    (hrun : ∀ args W, (callFunc K args).run Tryz.prog W = .ok (.enter K args) W)
    (hone : ∀ W b' bad' p, p ∈ L → WS W g b' bad' → Below w0.heap.size w0 W → Calls Tryz.prog K #[.pointer (some ⟨g, 0, none⟩), (fun p : LimT => .agg #[.int .i64 p.1, .int .i64 p.2.1, .bool p.2.2]) p] W (WTold g b' bad' (okf p) (xf p) W)) :
    Calls Tryz.prog 199 #[.pointer (some ⟨g, 0, none⟩), v, .int .i64 m, .func (.func K) #[.pointer (some ⟨g, 0, none⟩)] #[]] w (WTold g b bad (decide ((L.length : Int) ≤ m) && L.all okf) (Leb.uB L.length ++ L.flatMap xf) w) := by
  obtain ⟨P, c, rfl⟩ := row_len hr
  obtain ⟨n, hn⟩ : ∃ n, L.length = n := ⟨_, rfl⟩
  have HN := Lib.hid hn
  rw [hn] at hr hL ⊢
  have HR := Lib.hid hr
  have HBW := Lib.hid hb
  have HG := Lib.hid hg
  have HONE := Lib.hid hone
  obtain ⟨hd, hhd⟩ : ∃ r, decide ((n : Int) ≤ m) = r := ⟨_, rfl⟩
  have HWN := Lib.hid (wneed hd hw)
  have HD := Lib.hid (hw.set1 (bad || !hd))
  obtain ⟨W1, hW1⟩ : ∃ W, w.setCell ⟨g, 1, none⟩ (.bool (bad || !hd)) = W := ⟨_, rfl⟩
  have HFR : Hid (WFr g w W1) := Lib.hid (by rw [← hW1]; exact (WFr.refl g w).setCell _ _)
  rw [hW1] at HD HWN
  rw [hhd]
  obtain ⟨TO, hTO⟩ : ∃ r, (hd && L.all okf) = r := ⟨_, rfl⟩
  obtain ⟨TX, hTX⟩ : ∃ r, Leb.uB n ++ L.flatMap xf = r := ⟨_, rfl⟩
  have HTO := Lib.hid hTO
  have HTX := Lib.hid hTX
  rw [hTO, hTX]
  clear hW1 hw hr hb hg hone hn hTO hTX
  go_enter Tryz.func199, Tryz.ntmps199
  go_wp2_with fail
  refine HWN.out.mono ?_
  rintro en w1 ⟨rfl, hw1⟩
  obtain rfl : W1 = w1 := hw1.symm
  go_wp2_with fail
  refine (wnum (n : Int) (by omega) HD.out).mono ?_
  rintro en w2 ⟨b2, bad2, rfl, hs2, hp2, hf2⟩
  have HS2 := Lib.hid hs2
  have HP2 : Hid (Puts b bad b2 bad2 hd (Leb.uB n)) := Lib.hid (Puts.after (by rw [okU_nat hL, Int.toNat_natCast] at hp2; exact hp2))
  have HF2 := Lib.hid (HFR.out.trans hf2)
  clear hs2 hp2 hf2 hhd
  go_wp2_with fail
  go_loopw [22] (fun i' wr => ∃ (i : Nat) (b' : List Int) (bad' : Bool), i' = .int .i64 (i : Int) ∧ i ≤ n ∧ WS wr g b' bad' ∧ Puts b bad b' bad' (hd && (L.take i).all okf) (Leb.uB n ++ (L.take i).flatMap xf) ∧ WFr g w wr) (fun i' _ => n - (intOf i').toNat)
  case atStart => exact ⟨0, b2, bad2, by go_num, by omega, HS2.out, by simpa using HP2.out, HF2.out⟩
  case round =>
    obtain ⟨i, b', bad', rfl, hi, hs, hp, hf⟩ := hrel
    have HS := Lib.hid hs
    have HP := Lib.hid hp
    have HF := Lib.hid hf
    clear hs hp hf HS2 HP2 HF2
    by_cases hlt : i < n
    · obtain ⟨p, hp⟩ : ∃ p, L[i]? = some p := ⟨_, List.getElem?_eq_getElem (by rw [HN.out]; exact hlt)⟩
      have HBR : Hid (Below w0.heap.size w0 wr) := Lib.hid (HBW.out.trans (HF.out.below.mono HG.out))
      obtain ⟨g1, off, rfl, hg1, hA, hok⟩ := (HR.out.keep HBR.out).at_ hp
      rw [show (elL.s) = 3 from rfl] at hA
      have q0 := hA 0 (.int .i64 p.1) rfl
      have q1 := hA 1 (.int .i64 p.2.1) rfl
      have q2 := hA 2 (.bool p.2.2) rfl
      rw [Nat.add_zero] at q0
      have HPM := Lib.hid (List.mem_of_getElem? hp)
      have HAN := Lib.hid (all_next okf hp)
      have HFN := Lib.hid (flat_next xf hp)
      have i1 : (0 : Int) ≤ (i : Int) := by omega
      have i2 : (i : Int) < (n : Int) := by omega
      have hw1 : IntKind.i64.wrap ((i : Int) + 1) = (i : Int) + 1 := IntWalk.i64_in _ (by omega)
      clear hA hp hok hg1
      obtain ⟨x, y, z⟩ := p
      obtain ⟨W2, hW2⟩ : ∃ W, wr.alloc (.cells #[.int .i64 x, .int .i64 y, .bool z] 61) = W := ⟨_, rfl⟩
      have HA2 : Hid (Below wr.heap.size wr W2) := Lib.hid (by rw [← hW2]; exact (Below.refl _ _).alloc (Nat.le_refl _) _)
      have HS2 : Hid (WS W2 g b' bad') := Lib.hid (HS.out.keep HA2.out)
      have HF2 : Hid (WFr g w W2) := Lib.hid (HF.out.trans (WFr.of_below HA2.out HS.out.lt))
      have HO2 := Lib.hid (HONE.out W2 b' bad' _ HPM.out HS2.out (HBR.out.trans (HA2.out.mono HBR.out.size)))
      rw [← hW2] at HS2 HF2 HO2
      obtain ⟨⟨Pb, cb, h1, _⟩, _⟩ := id HS.out
      have d1 := Lib.cell?_alloc_some (.cells #[.int .i64 x, .int .i64 y, .bool z] 61) (Sec.cells_at h1 1).1
      clear h1 hW2
      cases bad' with
      | true =>
        have HE : Hid (WTold g b bad TO TX w (.returned (.tuple #[])) (wr.alloc (.cells #[.int .i64 x, .int .i64 y, .bool z] 61))) := Lib.hid ⟨b', true, rfl, HS2.out, by
          rw [← HTO.out, ← HTX.out, all_cut okf L i, flat_cut xf L i, ← Bool.and_assoc, ← List.append_assoc]
          exact Puts.stop HP.out, HF2.out⟩
        go_wp2_with fail
        exact bodyPost_ret (P := Tryz.prog) (fn := Tryz.f199) (v := .tuple #[]) (by simp [results, Tryz.results199, go_sem]) rfl HE.out
      | false =>
        go_wp2_with fail
        refine HO2.out.mono ?_
        rintro en w3 ⟨b3, bad3, rfl, hs3, hp3, hf3⟩
        have HS3 := Lib.hid hs3
        have HP3 : Hid (Puts b bad b3 bad3 (hd && (L.take (i + 1)).all okf) (Leb.uB n ++ (L.take (i + 1)).flatMap xf)) := Lib.hid (by
          rw [HAN.out, HFN.out, ← Bool.and_assoc, ← List.append_assoc]
          exact HP.out.trans hp3)
        have HF3 := Lib.hid (HF2.out.trans hf3)
        clear hs3 hp3 hf3
        go_wp2_with fail
        go_roundw
        case rel => exact ⟨i + 1, b3, bad3, by go_num, hlt, HS3.out, HP3.out, HF3.out⟩
        case measure => simp [intOf]; omega
    · have hin : i = n := by omega
      subst hin
      have HE : Hid (WTold g b bad TO TX w (.returned (.tuple #[])) wr) := Lib.hid ⟨b', bad', rfl, HS.out, by
        have := HP.out
        rw [List.take_of_length_le (by rw [HN.out]; exact Nat.le_refl _)] at this
        rw [← HTO.out, ← HTX.out]
        exact this, HF.out⟩
      go_wp2_with fail
      exact bodyPost_end (v := .tuple #[]) (by simp [results, Tryz.results199, go_sem]) rfl HE.out
theorem wsome_Limits (okf : LimT → Bool) (xf : LimT → List Int) (m : Int) (K : Nat) {w0 w : World} {v : Value} {L : List LimT} {g : Nat} {b : List Int} {bad : Bool} (hw : WS w g b bad) (hr : RowG.Row elL w0 v L) (hb : Below w0.heap.size w0 w) (hg : w0.heap.size ≤ g) (hL : L.length ≤ 100000) (h0 : 0 < L.length)
    (hrun : ∀ args W, (callFunc K args).run Tryz.prog W = .ok (.enter K args) W)
    (hone : ∀ W b' bad' p, p ∈ L → WS W g b' bad' → Below w0.heap.size w0 W → Calls Tryz.prog K #[.pointer (some ⟨g, 0, none⟩), (fun p : LimT => .agg #[.int .i64 p.1, .int .i64 p.2.1, .bool p.2.2]) p] W (WTold g b' bad' (okf p) (xf p) W)) :
    Calls Tryz.prog 150 #[.pointer (some ⟨g, 0, none⟩), v, .int .i64 m, .func (.func K) #[.pointer (some ⟨g, 0, none⟩)] #[]] w (WTold g b bad (decide ((L.length : Int) ≤ m) && L.all okf) (Leb.uB L.length ++ L.flatMap xf) w) := by
  have HC := Lib.hid (wlist_Limits okf xf m K hw hr hb hg hL hrun hone)
  obtain ⟨P, c, rfl⟩ := row_len hr
  obtain ⟨TO, hTO⟩ : ∃ r, (decide ((L.length : Int) ≤ m) && L.all okf) = r := ⟨_, rfl⟩
  obtain ⟨TX, hTX⟩ : ∃ r, Leb.uB L.length ++ L.flatMap xf = r := ⟨_, rfl⟩
  rw [hTO, hTX] at HC ⊢
  clear hTO hTX
  obtain ⟨n, hn⟩ : ∃ n, L.length = n := ⟨_, rfl⟩
  rw [hn] at HC h0 ⊢
  have t1 : decide ((0 : Int) < (n : Int)) = true := decide_eq_true (by omega)
  have t2 : decide (0 < n) = true := decide_eq_true h0
  clear hw hr hb hg hL hone hn h0
  go_enter Tryz.func150, Tryz.ntmps150
  go_wp2_with fail
  refine HC.out.mono ?_
  rintro en w3 ⟨b3, bad3, rfl, hs3, hp3, hf3⟩
  have HE : Hid (WTold g b bad TO TX w (.returned (.tuple #[])) w3) := Lib.hid ⟨b3, bad3, rfl, hs3, hp3, hf3⟩
  clear hs3 hp3 hf3
  go_wp2_with fail
  exact bodyPost_end (v := .tuple #[]) (by simp [results, Tryz.results150, go_sem]) rfl HE.out
theorem wnone_FuncType (u : Value) (v : Value) (m : Int) {w : World} {P : Option Addr} {c : Nat} : Calls Tryz.prog 144 #[v, .slice P 0 c, .int .i64 m, u] w fun en w' => en = .returned (.tuple #[]) ∧ w' = w := by
  go_enter Tryz.func144, Tryz.ntmps144
  go_wp2_with fail
  exact bodyPost_end (v := .tuple #[]) (by simp [results, Tryz.results144, go_sem]) rfl ⟨rfl, rfl⟩
theorem wnone_Import (u : Value) (v : Value) (m : Int) {w : World} {P : Option Addr} {c : Nat} : Calls Tryz.prog 146 #[v, .slice P 0 c, .int .i64 m, u] w fun en w' => en = .returned (.tuple #[]) ∧ w' = w := by
  go_enter Tryz.func146, Tryz.ntmps146
  go_wp2_with fail
  exact bodyPost_end (v := .tuple #[]) (by simp [results, Tryz.results146, go_sem]) rfl ⟨rfl, rfl⟩
theorem wnone_int (u : Value) (v : Value) (m : Int) {w : World} {P : Option Addr} {c : Nat} : Calls Tryz.prog 148 #[v, .slice P 0 c, .int .i64 m, u] w fun en w' => en = .returned (.tuple #[]) ∧ w' = w := by
  go_enter Tryz.func148, Tryz.ntmps148
  go_wp2_with fail
  exact bodyPost_end (v := .tuple #[]) (by simp [results, Tryz.results148, go_sem]) rfl ⟨rfl, rfl⟩
theorem wnone_Limits (u : Value) (v : Value) (m : Int) {w : World} {P : Option Addr} {c : Nat} : Calls Tryz.prog 150 #[v, .slice P 0 c, .int .i64 m, u] w fun en w' => en = .returned (.tuple #[]) ∧ w' = w := by
  go_enter Tryz.func150, Tryz.ntmps150
  go_wp2_with fail
  exact bodyPost_end (v := .tuple #[]) (by simp [results, Tryz.results150, go_sem]) rfl ⟨rfl, rfl⟩
theorem wnone_GlobalDef (u : Value) (v : Value) (m : Int) {w : World} {P : Option Addr} {c : Nat} : Calls Tryz.prog 153 #[v, .slice P 0 c, .int .i64 m, u] w fun en w' => en = .returned (.tuple #[]) ∧ w' = w := by
  go_enter Tryz.func153, Tryz.ntmps153
  go_wp2_with fail
  exact bodyPost_end (v := .tuple #[]) (by simp [results, Tryz.results153, go_sem]) rfl ⟨rfl, rfl⟩
theorem wnone_Export (u : Value) (v : Value) (m : Int) {w : World} {P : Option Addr} {c : Nat} : Calls Tryz.prog 155 #[v, .slice P 0 c, .int .i64 m, u] w fun en w' => en = .returned (.tuple #[]) ∧ w' = w := by
  go_enter Tryz.func155, Tryz.ntmps155
  go_wp2_with fail
  exact bodyPost_end (v := .tuple #[]) (by simp [results, Tryz.results155, go_sem]) rfl ⟨rfl, rfl⟩
theorem wnone_Elem (u : Value) (v : Value) (m : Int) {w : World} {P : Option Addr} {c : Nat} : Calls Tryz.prog 158 #[v, .slice P 0 c, .int .i64 m, u] w fun en w' => en = .returned (.tuple #[]) ∧ w' = w := by
  go_enter Tryz.func158, Tryz.ntmps158
  go_wp2_with fail
  exact bodyPost_end (v := .tuple #[]) (by simp [results, Tryz.results158, go_sem]) rfl ⟨rfl, rfl⟩
theorem wnone_Code (u : Value) (v : Value) (m : Int) {w : World} {P : Option Addr} {c : Nat} : Calls Tryz.prog 160 #[v, .slice P 0 c, .int .i64 m, u] w fun en w' => en = .returned (.tuple #[]) ∧ w' = w := by
  go_enter Tryz.func160, Tryz.ntmps160
  go_wp2_with fail
  exact bodyPost_end (v := .tuple #[]) (by simp [results, Tryz.results160, go_sem]) rfl ⟨rfl, rfl⟩
theorem wnone_Data (u : Value) (v : Value) (m : Int) {w : World} {P : Option Addr} {c : Nat} : Calls Tryz.prog 162 #[v, .slice P 0 c, .int .i64 m, u] w fun en w' => en = .returned (.tuple #[]) ∧ w' = w := by
  go_enter Tryz.func162, Tryz.ntmps162
  go_wp2_with fail
  exact bodyPost_end (v := .tuple #[]) (by simp [results, Tryz.results162, go_sem]) rfl ⟨rfl, rfl⟩
theorem wstart_none (v : Value) {w : World} : Calls Tryz.prog 157 #[v, .int .i64 (-1)] w fun en w' => en = .returned (.tuple #[]) ∧ w' = w := by
  go_enter Tryz.func157, Tryz.ntmps157
  go_wp2_with fail
  exact bodyPost_end (v := .tuple #[]) (by simp [results, Tryz.results157, go_sem]) rfl ⟨rfl, rfl⟩
end Go.Proofs.YtffegkjlgeblbaaGreatDoor.Mdl
end

section
/- The program's lists of numbers, laid: walked. -/
namespace Go.Proofs.YtffegkjlgeblbaaGreatDoor.Mdl
open Go.RowKit Ints Typ Ins
set_option maxRecDepth 100000
set_option maxHeartbeats 4000000
set_option linter.unusedVariables false
def numB (p : Int) : List Int := Leb.uB p.toNat
theorem wlist_int (m : Int) {w0 w : World} {v : Value} {L : List Int} {g : Nat} {b : List Int} {bad : Bool} (hw : WS w g b bad) (hr : SlI w0 v L) (hb : Below w0.heap.size w0 w) (hg : w0.heap.size ≤ g) (hL : L.length ≤ 100000) :
    Calls Tryz.prog 198 #[.pointer (some ⟨g, 0, none⟩), v, .int .i64 m, .func (.func 149) #[.pointer (some ⟨g, 0, none⟩)] #[]] w (WTold g b bad (decide ((L.length : Int) ≤ m) && L.all okU) (Leb.uB L.length ++ L.flatMap numB) w) := by
  obtain ⟨P, c, rfl, hjunk⟩ := id hr
  clear hjunk
  obtain ⟨n, hn⟩ : ∃ n, L.length = n := ⟨_, rfl⟩
  have HN := Lib.hid hn
  rw [hn] at hr hL ⊢
  have HR := Lib.hid hr
  have HBW := Lib.hid hb
  have HG := Lib.hid hg
  have hrun : ∀ args W, (callFunc 149 args).run Tryz.prog W = .ok (.enter 149 args) W := fun args W => Stab.run_enter Tryz.func149 (by kernel_rfl) rfl args W
  obtain ⟨hd, hhd⟩ : ∃ r, decide ((n : Int) ≤ m) = r := ⟨_, rfl⟩
  have HWN := Lib.hid (wneed hd hw)
  have HD := Lib.hid (hw.set1 (bad || !hd))
  obtain ⟨W1, hW1⟩ : ∃ W, w.setCell ⟨g, 1, none⟩ (.bool (bad || !hd)) = W := ⟨_, rfl⟩
  have HFR : Hid (WFr g w W1) := Lib.hid (by rw [← hW1]; exact (WFr.refl g w).setCell _ _)
  rw [hW1] at HD HWN
  rw [hhd]
  obtain ⟨TO, hTO⟩ : ∃ r, (hd && L.all okU) = r := ⟨_, rfl⟩
  obtain ⟨TX, hTX⟩ : ∃ r, Leb.uB n ++ L.flatMap numB = r := ⟨_, rfl⟩
  have HTO := Lib.hid hTO
  have HTX := Lib.hid hTX
  rw [hTO, hTX]
  clear hW1 hw hr hb hg hn hTO hTX
  go_enter Tryz.func198, Tryz.ntmps198
  go_wp2_with fail
  refine HWN.out.mono ?_
  rintro en w1 ⟨rfl, hw1⟩
  obtain rfl : W1 = w1 := hw1.symm
  go_wp2_with fail
  refine (wnumA (n : Int) HD.out).mono ?_
  rintro en w2 ⟨b2, bad2, rfl, hs2, hp2, hf2⟩
  have HS2 := Lib.hid hs2
  have HP2 : Hid (Puts b bad b2 bad2 hd (Leb.uB n)) := Lib.hid (Puts.after (by rw [okU_nat hL, Int.toNat_natCast] at hp2; exact hp2))
  have HF2 := Lib.hid (HFR.out.trans hf2)
  clear hs2 hp2 hf2 hhd
  go_wp2_with fail
  go_loopw [22] (fun i' wr => ∃ (i : Nat) (b' : List Int) (bad' : Bool), i' = .int .i64 (i : Int) ∧ i ≤ n ∧ WS wr g b' bad' ∧ Puts b bad b' bad' (hd && (L.take i).all okU) (Leb.uB n ++ (L.take i).flatMap numB) ∧ WFr g w wr) (fun i' _ => n - (intOf i').toNat)
  case atStart => exact ⟨0, b2, bad2, by go_num, by omega, HS2.out, by simpa using HP2.out, HF2.out⟩
  case round =>
    obtain ⟨i, b', bad', rfl, hi, hs, hp, hf⟩ := hrel
    have HS := Lib.hid hs
    have HP := Lib.hid hp
    have HF := Lib.hid hf
    clear hs hp hf HS2 HP2 HF2
    by_cases hlt : i < n
    · obtain ⟨p, hp⟩ : ∃ p, L[i]? = some p := ⟨_, List.getElem?_eq_getElem (by rw [HN.out]; exact hlt)⟩
      have HBR : Hid (Below w0.heap.size w0 wr) := Lib.hid (HBW.out.trans (HF.out.below.mono HG.out))
      obtain ⟨A', c', e', _, _, hcell⟩ := HR.out.keep HBR.out
      obtain ⟨g1, off, rfl, hg1, hA⟩ := hcell (fun e => by rw [e] at hp; simp at hp)
      injection e' with e1 e2 e3
      subst e1
      have q0 : wr.cell? ⟨g1, off + i, none⟩ = some (.int .i64 p) := by
        have := hA i (by rw [HN.out]; exact hlt)
        rw [List.getD_eq_getElem?_getD, hp] at this
        exact this
      have HAN := Lib.hid (all_next okU hp)
      have HFN := Lib.hid (flat_next numB hp)
      have i1 : (0 : Int) ≤ (i : Int) := by omega
      have i2 : (i : Int) < (n : Int) := by omega
      have hw1 : IntKind.i64.wrap ((i : Int) + 1) = (i : Int) + 1 := IntWalk.i64_in _ (by omega)
      have HO2 := Lib.hid (wnumA p HS.out)
      obtain ⟨⟨Pb, cb, h1, _⟩, _⟩ := id HS.out
      have d1 := (Sec.cells_at h1 1).1
      clear h1 hA hp hcell hg1 e2 e3
      cases bad' with
      | true =>
        have HE : Hid (WTold g b bad TO TX w (.returned (.tuple #[])) wr) := Lib.hid ⟨b', true, rfl, HS.out, by
          rw [← HTO.out, ← HTX.out, all_cut okU L i, flat_cut numB L i, ← Bool.and_assoc, ← List.append_assoc]
          exact Puts.stop HP.out, HF.out⟩
        go_wp2_with fail
        exact bodyPost_ret (P := Tryz.prog) (fn := Tryz.f198) (v := .tuple #[]) (by simp [results, Tryz.results198, go_sem]) rfl HE.out
      | false =>
        go_wp2_with fail
        refine HO2.out.mono ?_
        rintro en w3 ⟨b3, bad3, rfl, hs3, hp3, hf3⟩
        have HS3 := Lib.hid hs3
        have HP3 : Hid (Puts b bad b3 bad3 (hd && (L.take (i + 1)).all okU) (Leb.uB n ++ (L.take (i + 1)).flatMap numB)) := Lib.hid (by
          rw [HAN.out, HFN.out, ← Bool.and_assoc, ← List.append_assoc]
          exact HP.out.trans hp3)
        have HF3 := Lib.hid (HF.out.trans hf3)
        clear hs3 hp3 hf3
        go_wp2_with fail
        go_roundw
        case rel => exact ⟨i + 1, b3, bad3, by go_num, hlt, HS3.out, HP3.out, HF3.out⟩
        case measure => simp [intOf]; omega
    · have hin : i = n := by omega
      subst hin
      have HE : Hid (WTold g b bad TO TX w (.returned (.tuple #[])) wr) := Lib.hid ⟨b', bad', rfl, HS.out, by
        have := HP.out
        rw [List.take_of_length_le (by rw [HN.out]; exact Nat.le_refl _)] at this
        rw [← HTO.out, ← HTX.out]
        exact this, HF.out⟩
      go_wp2_with fail
      exact bodyPost_end (v := .tuple #[]) (by simp [results, Tryz.results198, go_sem]) rfl HE.out
theorem wsome_int (m : Int) {w0 w : World} {v : Value} {L : List Int} {g : Nat} {b : List Int} {bad : Bool} (hw : WS w g b bad) (hr : SlI w0 v L) (hb : Below w0.heap.size w0 w) (hg : w0.heap.size ≤ g) (hL : L.length ≤ 100000) (h0 : 0 < L.length) :
    Calls Tryz.prog 148 #[.pointer (some ⟨g, 0, none⟩), v, .int .i64 m, .func (.func 149) #[.pointer (some ⟨g, 0, none⟩)] #[]] w (WTold g b bad (decide ((L.length : Int) ≤ m) && L.all okU) (Leb.uB L.length ++ L.flatMap numB) w) := by
  have HC := Lib.hid (wlist_int m hw hr hb hg hL)
  obtain ⟨P, c, rfl, hjunk⟩ := id hr
  clear hjunk
  obtain ⟨TO, hTO⟩ : ∃ r, (decide ((L.length : Int) ≤ m) && L.all okU) = r := ⟨_, rfl⟩
  obtain ⟨TX, hTX⟩ : ∃ r, Leb.uB L.length ++ L.flatMap numB = r := ⟨_, rfl⟩
  rw [hTO, hTX] at HC ⊢
  clear hTO hTX
  obtain ⟨n, hn⟩ : ∃ n, L.length = n := ⟨_, rfl⟩
  rw [hn] at HC h0 ⊢
  have t1 : decide ((0 : Int) < (n : Int)) = true := decide_eq_true (by omega)
  have t2 : decide (0 < n) = true := decide_eq_true h0
  clear hw hr hb hg hL hn h0
  go_enter Tryz.func148, Tryz.ntmps148
  go_wp2_with fail
  refine HC.out.mono ?_
  rintro en w3 ⟨b3, bad3, rfl, hs3, hp3, hf3⟩
  have HE : Hid (WTold g b bad TO TX w (.returned (.tuple #[])) w3) := Lib.hid ⟨b3, bad3, rfl, hs3, hp3, hf3⟩
  clear hs3 hp3 hf3
  go_wp2_with fail
  exact bodyPost_end (v := .tuple #[]) (by simp [results, Tryz.results148, go_sem]) rfl HE.out
end Go.Proofs.YtffegkjlgeblbaaGreatDoor.Mdl
end
