/- StkPopC, StkCloseC. -/
import Derived.Test.YtlappkflnlbfcaaGreatDoorPkStkPush
section
/- The program's own calls of layer 9, walked: Pop. -/
namespace Go.Proofs.YtlappkflnlbfcaaGreatDoor.Stk
open Go.RowKit Row9
set_option maxRecDepth 100000
set_option maxHeartbeats 2000000
set_option linter.unusedVariables false
/-- A draft stays while what is below its base is turned. -/
theorem Dr.high {w W : World} {B D : Nat} {vv cv : Value} {vals : List Int} {l : List CtV} (h : Dr w B D vv cv vals l) (hW : ∀ k, B ≤ k → k < w.heap.size → W.heap[k]? = w.heap[k]?) : Dr W B D vv cv vals l :=
  ⟨h.hD, (hW D h.hD h.lt).trans h.blk, own_stay h.vO fun k hk => hW k (World.ownsRow.lt h.vO k hk).1 (World.ownsRow.lt h.vO k hk).2, h.vR, own_stay h.cO fun k hk => hW k (World.ownsRow.lt h.cO k hk).1 (World.ownsRow.lt h.cO k hk).2, fun p hp => ⟨own_stay (h.ok p hp).1 fun k hk => hW k (World.ownsRow.lt (h.ok p hp).1 k hk).1 (World.ownsRow.lt (h.ok p hp).1 k hk).2, (h.ok p hp).2⟩⟩
theorem BO.set {B b i : Nat} {w w' : World} (h : Below B w w') (u : Value) : BO B (some b) w (w'.setCell ⟨b, i, none⟩ u) :=
  ⟨h.os, h.tape, h.output, by rw [set_size]; exact h.size, fun k hk hne => (Below.heap_setCell _ _ _ _ (by intro e; exact hne (congrArg some e))).trans (h.block k hk)⟩
def pvE (o : Option (List Int × Int)) : Int := match o with
  | none => 5
  | some _ => 0
def pvV (o : Option (List Int × Int)) : Int := match o with
  | none => 0
  | some p => p.2
def pvL (o : Option (List Int × Int)) : List Int := match o with
  | none => []
  | some p => p.1
theorem popped1 {B D b : Nat} {vv cv : Value} {vals : List Int} {l : List CtV} {W : World} (h : Dr W B D vv cv vals l) (hl : vals.length ≤ 1000000) (hb : b < B) (hz : W.heap[b]? = some (.cells #[.int .u8 0] 5 (0, 0))) :
    Calls Tryz.prog 170 #[.pointer (some ⟨D, 0, none⟩), .pointer (some ⟨b, 0, none⟩)] W fun e W' => e = .returned (.int .i64 (pvE (popV (l.map (·.1)).getLast? vals))) ∧ W'.cell? ⟨b, 0, none⟩ = some (.int .u8 (pvV (popV (l.map (·.1)).getLast? vals))) ∧ (pvE (popV (l.map (·.1)).getLast? vals) = 0 → Left W' D ⟨pvL (popV (l.map (·.1)).getLast? vals), l.map (·.1)⟩) ∧ BO B (some b) W W' := by
  have HP := Lib.hid (pop_any h hl)
  have HD := Lib.hid h.hD
  have HLt := Lib.hid h.lt
  have HZ := Lib.hid hz
  have HB := Lib.hid hb
  generalize popV (l.map (·.1)).getLast? vals = o at *
  clear h hl hz hb
  go_enter Tryz.func170, Tryz.ntmps170
  go_wp2_with fail
  refine HP.out.mono ?_
  rintro e w1 hw
  cases o with
  | none =>
    obtain ⟨rfl, hbt⟩ := hw
    have HBe := Lib.hid (hbt.below HD.out HLt.out)
    have hz1 := (HBe.out.block b HB.out).trans HZ.out
    obtain ⟨q0, p0⟩ := cells_at hz1 0
    simp only [List.getElem?_toArray, List.getElem?_cons_zero] at q0
    have HQ := Lib.hid (cells_at (set_heap (i := 0) hz1 (.int .u8 0)) 0).1
    clear hz1 hbt
    go_wp2_with fail
    exact bodyPost_ret (v := .int .i64 5) (by simp [results, Tryz.results170, go_sem]) rfl ⟨rfl, HQ.out, (fun h => absurd h (by decide)), BO.set HBe.out _⟩
  | some pr =>
    obtain ⟨vs, v⟩ := pr
    obtain ⟨vv1, rfl, hd, hbt⟩ := hw
    have HBe := Lib.hid (hbt.below HD.out HLt.out)
    have hz1 := (HBe.out.block b HB.out).trans HZ.out
    obtain ⟨q0, p0⟩ := cells_at hz1 0
    simp only [List.getElem?_toArray, List.getElem?_cons_zero] at q0
    have HQ := Lib.hid (cells_at (set_heap (i := 0) hz1 (.int .u8 v)) 0).1
    have HL := Lib.hid (hd.high (W := w1.setCell ⟨b, 0, none⟩ (.int .u8 v)) fun k hk _ => Below.heap_setCell _ _ _ _ (by have := HB.out; show k ≠ b; omega)).left
    clear hz1 hbt hd
    go_wp2_with fail
    exact bodyPost_ret (v := .int .i64 0) (by simp [results, Tryz.results170, go_sem]) rfl ⟨rfl, HQ.out, (fun _ => HL.out), BO.set HBe.out _⟩
/-- How Pop ends. -/
def PopEnds (r : Stk × Int × Int) (w : World) (e : Ending) (w' : World) : Prop := (∃ v, e = .returned (.tuple #[v, .int .u8 r.2.1, .int .i64 r.2.2]) ∧ StIs elP w' v r.1) ∧ Below w.heap.size w w'
def popMade (s : Stk) (o : Option (List Int × Int)) : Stk × Int × Int := if sane s = false then (none_, 0, 1) else match o with
  | none => (none_, 0, 5)
  | some (vs, v) => (⟨vs, s.cs⟩, v, 0)
theorem popS_is (s : Stk) : popS s = popMade s (popV s.cs.getLast? s.vals) := rfl
theorem Pop_any {a c : Value} {vals : List Int} {l : List CtV} {w : World} (ha : Row elB w a vals) (hc : Row elP w c l) (hvl : vals.length ≤ 400000) (hll : l.length ≤ 400000) :
    Calls Tryz.prog 153 #[.agg #[a, c]] w (PopEnds (popS ⟨vals, l.map (·.1)⟩) w) := by
  have hmf := mkf
  have HA := Lib.hid ha
  have HC := Lib.hid hc
  have HL := Lib.hid hvl
  have HLL := Lib.hid hll
  obtain ⟨Pa, ca, rfl, y1, y2⟩ := ha.form
  obtain ⟨Pc, cc_, rfl, y3, y4⟩ := hc.form
  obtain ⟨nv, hnv⟩ : ∃ n, vals.length = n := ⟨_, rfl⟩
  obtain ⟨nl, hnl⟩ : ∃ n, l.length = n := ⟨_, rfl⟩
  rw [popS_is]
  obtain ⟨o, ho⟩ : ∃ o, popV (l.map (·.1)).getLast? vals = o := ⟨_, rfl⟩
  have HO := Lib.hid ho
  show Calls _ _ _ _ (PopEnds (popMade ⟨vals, l.map (·.1)⟩ (popV (l.map (·.1)).getLast? vals)) w)
  rw [ho]
  rw [hnv] at HA ⊢
  rw [hnl] at HC ⊢
  have HB3 := Lib.hid (below3 w (.cells #[.slice Pa nv ca, .slice Pc nl cc_] 39) (.cells #[.slice none 0 0, .slice none 0 0] 39) (.cells #[.int .u8 0] 5))
  have HZ := Lib.hid (heap_new (w.alloc (.cells #[.slice Pa nv ca, .slice Pc nl cc_] 39)) (.cells #[.slice none 0 0, .slice none 0 0] 39))
  have HZ' : Hid ((((w.alloc (.cells #[.slice Pa nv ca, .slice Pc nl cc_] 39)).alloc (.cells #[.slice none 0 0, .slice none 0 0] 39)).alloc (.cells #[.int .u8 0] 5)).heap[w.heap.size + 1]? = some (.cells #[.slice none 0 0, .slice none 0 0] 39 (0, 0))) := by
    show _ = _
    rw [(below_new ((w.alloc (.cells #[.slice Pa nv ca, .slice Pc nl cc_] 39)).alloc (.cells #[.slice none 0 0, .slice none 0 0] 39)) _).block (w.heap.size + 1) (by simp only [size_new]; omega)]
    have := HZ.out
    rw [size_new] at this
    exact this
  have HX := Lib.hid (heap_new ((w.alloc (.cells #[.slice Pa nv ca, .slice Pc nl cc_] 39)).alloc (.cells #[.slice none 0 0, .slice none 0 0] 39)) (.cells #[.int .u8 0] 5))
  have HSz : Hid ((((w.alloc (.cells #[.slice Pa nv ca, .slice Pc nl cc_] 39)).alloc (.cells #[.slice none 0 0, .slice none 0 0] 39)).alloc (.cells #[.int .u8 0] 5)).heap.size = w.heap.size + 1 + 1 + 1) := by
    show _ = _
    rw [size_new, size_new, size_new]
  simp only [size_new] at HX
  clear HZ y1 y2 y3 y4 ha hc hvl hll hnv hnl ho
  go_enter Tryz.func153, Tryz.ntmps153
  go_wp2_with fail
  generalize ((w.alloc (.cells #[.slice Pa nv ca, .slice Pc nl cc_] 39)).alloc (.cells #[.slice none 0 0, .slice none 0 0] 39)).alloc (.cells #[.int .u8 0] 5) = w3 at *
  obtain ⟨b, hb⟩ : ∃ b, w.heap.size + 1 + 1 = b := ⟨_, rfl⟩
  obtain ⟨r, hr⟩ : ∃ r, w.heap.size + 1 = r := ⟨_, rfl⟩
  have HR : Hid (w.heap.size ≤ r ∧ w.heap.size ≤ b ∧ r < b ∧ b < w3.heap.size) := ⟨by omega, by omega, by omega, by rw [HSz.out]; omega⟩
  rw [hb] at HX
  rw [hr] at HZ'
  simp only [hb]
  simp only [hr]
  clear hr hb HSz
  have HCh := Lib.hid (changed_any (b := some b) (e0 := pvE o) (s' := ⟨pvL o, l.map (·.1)⟩) (K := fun W => W.cell? ⟨b, 0, none⟩ = some (.int .u8 (pvV o))) (caps := #[.pointer (some ⟨b, 0, none⟩)]) (HA.out.keep HB3.out) (HC.out.keep HB3.out) (by have := HL.out; omega) (by have := HLL.out; omega) (k := 170) ⟨_, Tryz.func170, by kernel_rfl, by kernel_rfl⟩
    (fun W W' r' hK hr' _ hch _ => (World.cell?_of_block (a := ⟨b, 0, none⟩) (hch b (World.block_lt_of_cell? W _ hK) (by have := HR.out.2.2.2; intro e; have := Option.some.inj e; omega))).trans hK)
    (fun hsn W B D vv cv l' hB hW hd hl' => by
      have hz := (hW.block b HR.out.2.2.2).trans HX.out
      rw [← HO.out, ← hl']
      exact popped1 hd (by have := HL.out; omega) (Nat.lt_of_lt_of_le HR.out.2.2.2 hB) hz) (fun x hx e => by have := HR.out.2.2.2; have := Option.some.inj e; omega))
  refine HCh.out.mono ?_
  rintro e w4 hch
  have HU : ∃ v ms mv ee, popMade ⟨vals, l.map (·.1)⟩ o = (ms, mv, ee) ∧ e = .returned (.tuple #[v, .int .i64 ee]) ∧ StIs elP w4 v ms ∧ w4.cell? ⟨b, 0, none⟩ = some (.int .u8 mv) ∧ BO w3.heap.size (some b) w3 w4 := by
    unfold popMade
    rcases hch with ⟨h1, h2, h3⟩ | ⟨h1, h2, h3, h4, h5⟩ | ⟨h1, h2, v, h3, h4, h5, h6⟩
    · rw [if_pos h1]
      exact ⟨_, _, _, _, rfl, h2, zS_is _, (h3.cell (p := ⟨b, 0, none⟩) HR.out.2.2.2).trans (cells_at HX.out 0).1, BO.of_below h3⟩
    · rw [if_neg (by rw [h1]; decide)]
      cases o with
      | none => exact ⟨_, _, _, _, rfl, h3, zS_is _, h4, h5⟩
      | some p => exact absurd rfl h2
    · rw [if_neg (by rw [h1]; decide)]
      cases o with
      | none => exact absurd h2 (by decide)
      | some p => exact ⟨_, _, _, _, rfl, h3, h4, h5, h6⟩
  obtain ⟨v, ms, mv, ee, hu, rfl, hv, hmv, hbo⟩ := HU
  have HUU := Lib.hid hu
  have hz4 := (hbo.block r (by have := HR.out; omega) (by have := HR.out; intro e; have := Option.some.inj e; omega)).trans HZ'.out
  have HZ4 := Lib.hid hz4
  have HB4 : Hid (Below w.heap.size w w4) := HB3.out.trans ⟨hbo.os, hbo.tape, hbo.output, hbo.size, fun k hk => hbo.block k (Nat.lt_of_lt_of_le hk HB3.out.size) (by have := HR.out; intro e; have := Option.some.inj e; omega)⟩
  have HRl := Lib.hid (lt_of_heap hz4)
  have HBl := Lib.hid (World.block_lt_of_cell? w4 _ hmv)
  obtain ⟨P1, n1, c1, P2, n2, c2, rfl, _⟩ := hv.store2 hz4
  have HV := Lib.hid hv
  clear hz4 hv hbo hu hch HCh
  have HB5 := Lib.hid (below_new w4 (.cells #[.slice P1 n1 c1, .slice P2 n2 c2] 39))
  have HX5 := Lib.hid (heap_new w4 (.cells #[.slice P1 n1 c1, .slice P2 n2 c2] 39))
  go_wp2_with fail
  generalize w4.alloc (.cells #[.slice P1 n1 c1, .slice P2 n2 c2] 39) = w7 at *
  obtain ⟨x, hx⟩ : ∃ x, w4.heap.size = x := ⟨_, rfl⟩
  have hmv7 := (HB5.out.cell (p := ⟨b, 0, none⟩) HBl.out).trans hmv
  have hz7 := (HB5.out.block r HRl.out).trans HZ4.out
  have HZ7 := Lib.hid hz7
  have HV7 := Lib.hid (HV.out.keep HB5.out)
  have HBf := Lib.hid (HB4.out.trans (HB5.out.mono HB4.out.size))
  rw [hx] at HX5
  simp only [hx]
  have x0 := (cells_at HX5.out 0).1
  have x1 := (cells_at HX5.out 1).1
  simp only [List.getElem?_toArray, List.getElem?_cons_zero, List.getElem?_cons_succ] at x0 x1
  obtain ⟨q0, p0⟩ := cells_at hz7 0
  obtain ⟨q1, p1⟩ := cells_at hz7 1
  simp only [List.getElem?_toArray, List.getElem?_cons_zero, List.getElem?_cons_succ] at q0 q1
  have hrb : b ≠ r := by have := HR.out; omega
  have hrb' : r ≠ b := by have := HR.out; omega
  have hxr : x ≠ r := by have := HRl.out; omega
  clear hx hmv hz7
  go_region
  obtain ⟨P1', n1', c1', P2', n2', c2', e9, hst⟩ := HV7.out.store2 HZ7.out
  simp only [Value.agg.injEq, Array.mk.injEq, List.cons.injEq, Value.slice.injEq, and_true] at e9
  obtain ⟨⟨rfl, rfl, rfl⟩, rfl, rfl, rfl⟩ := e9
  have HST := Lib.hid (hst.keep (below_drew1 _))
  have HBl2 := Lib.hid (((HBf.out.setCell (p := ⟨r, 0, none⟩) HR.out.1 (.slice P1 n1 c1)).setCell (p := ⟨r, 1, none⟩) HR.out.1 (.slice P2 n2 c2)).drew)
  have y0 := (cells_at (set_heap (i := 1) (set_heap (i := 0) HZ7.out (.slice P1 n1 c1)) (.slice P2 n2 c2)) 0).1
  have y1 := (cells_at (set_heap (i := 1) (set_heap (i := 0) HZ7.out (.slice P1 n1 c1)) (.slice P2 n2 c2)) 1).1
  clear hst q0 q1 p0 p1
  generalize ((w7.setCell ⟨r, 0, none⟩ (.slice P1 n1 c1)).setCell ⟨r, 1, none⟩ (.slice P2 n2 c2)) = w8 at *
  have y0 : w8.drew.cell? ⟨r, 0, none⟩ = some (.slice P1 n1 c1) := y0
  have y1 : w8.drew.cell? ⟨r, 1, none⟩ = some (.slice P2 n2 c2) := y1
  generalize w8.drew = w9 at *
  go_wp2_with fail
  refine bodyPost_ret (v := .tuple #[.agg #[.slice P1 n1 c1, .slice P2 n2 c2], .int .u8 mv, .int .i64 ee]) (by simp [results, Tryz.results153, go_sem, y0, y1]) rfl ⟨⟨_, by rw [HUU.out], by rw [HUU.out]; exact HST.out⟩, HBl2.out⟩
end Go.Proofs.YtlappkflnlbfcaaGreatDoor.Stk
end

section
/- The program's Close, walked. -/
namespace Go.Proofs.YtlappkflnlbfcaaGreatDoor.Stk
open Go.RowKit Row9
set_option maxRecDepth 100000
set_option maxHeartbeats 2000000
set_option linter.unusedVariables false
def ChHigh (b : Option Nat) (s : Stk) (e0 : Int) (s' : Stk) (K : World → Prop) (w : World) (e : Ending) (w' : World) : Prop :=
  (sane s = false ∧ e = .returned (.tuple #[zS, .int .i64 1]) ∧ Below w.heap.size w w') ∨ (sane s = true ∧ e0 ≠ 0 ∧ e = .returned (.tuple #[zS, .int .i64 e0]) ∧ K w' ∧ BO w.heap.size b w w') ∨ (sane s = true ∧ e0 = 0 ∧ ∃ v, e = .returned (.tuple #[v, .int .i64 0]) ∧ (∀ W : World, (∀ k, w.heap.size ≤ k → k < w'.heap.size → W.heap[k]? = w'.heap[k]?) → StIs elP W v s') ∧ K w' ∧ BO w.heap.size b w w')
theorem changed_high {a c : Value} {vals : List Int} {l : List CtV} {k : FuncId} {caps : Array Value} {w : World} {b : Option Nat} {e0 : Int} {s' : Stk} {K : World → Prop} (ha : Row elB w a vals) (hc : Row elP w c l) (hvl : vals.length ≤ 1000000) (hll : l.length ≤ 1000000)
    (hk : Stab.FnOk Tryz.prog k) (hKk : ∀ W W' r, K W → w.heap.size ≤ r → NoInt W r → Chg W W' (some r) → W.heap.size ≤ W'.heap.size → K W')
    (hF : sane ⟨vals, l.map (·.1)⟩ = true → ∀ W B D vv cv l', w.heap.size ≤ B → Below w.heap.size w W → Dr W B D vv cv vals l' → l'.map (·.1) = l.map (·.1) → Calls Tryz.prog k (#[.pointer (some ⟨D, 0, none⟩)] ++ caps) W fun e W' => e = .returned (.int .i64 e0) ∧ K W' ∧ (e0 = 0 → ∀ W2, (∀ k, B ≤ k → k < W'.heap.size → W2.heap[k]? = W'.heap[k]?) → Left W2 D s') ∧ BO B b W W')
    (hbr : ∀ x, w.heap.size ≤ x → some x ≠ b) :
    Calls Tryz.prog 83 #[.agg #[a, c], .func (.func k) #[] caps] w (ChHigh b ⟨vals, l.map (·.1)⟩ e0 s' K w) := by
  have hrun := run_k hk
  have HA := Lib.hid ha
  have HC := Lib.hid hc
  obtain ⟨Pa, ca, rfl, _⟩ := ha.form
  obtain ⟨Pc, cc_, rfl, _⟩ := hc.form
  obtain ⟨nv, hnv⟩ : ∃ n, vals.length = n := ⟨_, rfl⟩
  obtain ⟨n, hn⟩ : ∃ n, l.length = n := ⟨_, rfl⟩
  rw [hnv] at HA ⊢
  rw [hn] at HC ⊢
  have HVL := Lib.hid hvl
  have HLL := Lib.hid hll
  have HF := Lib.hid hF
  have HKK := Lib.hid hKk
  have HBR := Lib.hid hbr
  have HW1 := Lib.hid (below_new w (.cells #[.slice Pa nv ca, .slice Pc n cc_] 39))
  have HS1 := Lib.hid (size_new w (.cells #[.slice Pa nv ca, .slice Pc n cc_] 39))
  have HX1 := Lib.hid (heap_new w (.cells #[.slice Pa nv ca, .slice Pc n cc_] 39))
  clear ha hc hvl hll hF hKk hbr hnv hn
  go_enter Tryz.func83, Tryz.ntmps83
  go_wp2_with fail
  have HW2 := Lib.hid (HW1.out.trans ((below_new (w.alloc (.cells #[.slice Pa nv ca, .slice Pc n cc_] 39)) (.cells #[.slice none 0 0, .slice none 0 0] 39)).mono HW1.out.size))
  have HW12 := Lib.hid (below_new (w.alloc (.cells #[.slice Pa nv ca, .slice Pc n cc_] 39)) (.cells #[.slice none 0 0, .slice none 0 0] 39))
  have HZ2 := Lib.hid (heap_new (w.alloc (.cells #[.slice Pa nv ca, .slice Pc n cc_] 39)) (.cells #[.slice none 0 0, .slice none 0 0] 39))
  have HT2 := Lib.hid (box2_keep HW12.out)
  rw [HS1.out] at HZ2
  generalize (w.alloc (.cells #[.slice Pa nv ca, .slice Pc n cc_] 39)).alloc (.cells #[.slice none 0 0, .slice none 0 0] 39) = w2 at *
  clear HW1 HS1 HX1 HW12
  obtain ⟨z, hz⟩ : ∃ z, w.heap.size = z := ⟨_, rfl⟩
  rw [hz] at HT2 HZ2
  obtain ⟨r, hr⟩ : ∃ r, z + 1 = r := ⟨_, rfl⟩
  have HR : Hid (w.heap.size ≤ r ∧ some r ≠ b ∧ w.heap.size ≤ z ∧ z < r) := ⟨by omega, HBR.out r (by omega), by omega, by omega⟩
  rw [hz, hr]
  rw [hr] at HZ2
  clear hz hr
  refine (sane_any (HA.out.keep HW2.out) (HC.out.keep HW2.out)).mono ?_
  rintro e w3 ⟨rfl, hb3⟩
  have HB3 := Lib.hid (HW2.out.trans (hb3.mono HW2.out.size))
  have hz3 := (hb3.block r (lt_of_heap HZ2.out)).trans HZ2.out
  have HZ3 := Lib.hid hz3
  have HRL := Lib.hid (lt_of_heap hz3)
  cases hs : sane ⟨vals, l.map (·.1)⟩ with
  | false =>
    have HS := Lib.hid hs
    obtain ⟨q0, p0⟩ := cells_at hz3 0
    obtain ⟨q1, p1⟩ := cells_at hz3 1
    simp only [List.getElem?_toArray, List.getElem?_cons_zero, List.getElem?_cons_succ] at q0 q1
    clear hs hb3 hz3 hrun
    go_wp2_with fail
    refine bodyPost_ret (v := .tuple #[zS, .int .i64 1]) (by simp [results, Tryz.results83, go_sem, zS, q0, q1]) rfl (.inl ⟨HS.out, rfl, ?_⟩)
    exact (HB3.out.setCell (p := ⟨r, 0, none⟩) HR.out.1 _).setCell (p := ⟨r, 1, none⟩) HR.out.1 _
  | true =>
    have HS := Lib.hid hs
    have hfs := (sane_facts hs).1
    have hzl := World.block_lt_of_cell? w2 _ HT2.out.1
    have t0 := (hb3.cell (p := ⟨z, 0, none⟩) hzl).trans HT2.out.1
    have t1 := (hb3.cell (p := ⟨z, 1, none⟩) hzl).trans HT2.out.2
    have HDr := Lib.hid (drafted_any (HA.out.keep HB3.out) (HC.out.keep HB3.out) (fun p hp => (hfs p.1 (List.mem_map_of_mem hp)).1) HVL.out HLL.out (fun p hp => by have := mayE_len (hfs p.1 (List.mem_map_of_mem hp)).2.2; omega))
    clear hs hb3 hz3 hfs hzl
    go_wp2_with fail
    refine HDr.out.mono ?_
    rintro e w4 ⟨D, vv, cv, l', rfl, hd, hl', hb4⟩
    have HB4 := Lib.hid (HB3.out.trans (hb4.mono HB3.out.size))
    have HZ4 := Lib.hid ((hb4.block r HRL.out).trans HZ3.out)
    have HFF := Lib.hid (HF.out HS.out w4 w3.heap.size D vv cv l' HB3.out.size HB4.out hd hl')
    have HSZ := Lib.hid hb4.size
    have HDB := Lib.hid hd.hD
    clear t0 t1 hd hl' hb4
    go_wp2_with fail
    refine HFF.out.mono ?_
    rintro e w5 ⟨rfl, hK, hL, hbb⟩
    have HK := Lib.hid hK
    have HL := Lib.hid hL
    have HB5 : Hid (BO w.heap.size b w w5) := (BO.of_below HB4.out).trans ⟨hbb.os, hbb.tape, hbb.output, hbb.size, fun k hk hne => hbb.block k (Nat.lt_of_lt_of_le hk HB3.out.size) hne⟩
    have hz5 := (hbb.block r HRL.out HR.out.2.1).trans HZ4.out
    have HZ5 := Lib.hid hz5
    obtain ⟨q0, p0⟩ := cells_at hz5 0
    obtain ⟨q1, p1⟩ := cells_at hz5 1
    simp only [List.getElem?_toArray, List.getElem?_cons_zero, List.getElem?_cons_succ] at q0 q1
    clear hK hL hbb hz5 hrun
    by_cases he : e0 = 0
    · subst he
      obtain ⟨a', c', pv, l'', hd5, ra, rc, hm⟩ := HL.out rfl w5 (fun _ _ _ => rfl)
      have HD5 := Lib.hid hd5
      obtain ⟨d0, d1, d2, f0, f1, f2⟩ := dr_cells hd5
      have HV : Hid (∀ W : World, (∀ k, w.heap.size ≤ k → k < ((w5.setCell ⟨r, 0, none⟩ a').setCell ⟨r, 1, none⟩ c').heap.size → W.heap[k]? = ((w5.setCell ⟨r, 0, none⟩ a').setCell ⟨r, 1, none⟩ c').heap[k]?) → StIs elP W (.agg #[a', c']) s') := fun W hW => by
        have hs : ∀ k, w3.heap.size ≤ k → k < w5.heap.size → W.heap[k]? = w5.heap[k]? := fun k h1 h2 => by
          rw [hW k (Nat.le_trans HB3.out.size h1) (by rw [set_size, set_size]; exact h2)]
          exact chg2 w5 r a' c' k h2 (by intro e; have := Option.some.inj e; have := HRL.out; omega)
        obtain ⟨a2, c2, pv2, l2, hd2, ra2, rc2, hm2⟩ := HL.out rfl W hs
        have hDD : D < w5.heap.size := lt_of_heap HD5.out
        rw [hs D HDB.out hDD, HD5.out] at hd2
        simp only [drCells, Option.some.injEq, Obj.cells.injEq, Array.mk.injEq, List.cons.injEq, and_true] at hd2
        obtain ⟨rfl, rfl, _⟩ := hd2
        exact ⟨_, _, l2, rfl, ra2, rc2, hm2⟩
      obtain ⟨Pa', ca', rfl, _⟩ := ra.form
      obtain ⟨Pc', cc', rfl, _⟩ := rc.form
      obtain ⟨na', hna⟩ : ∃ n, s'.vals.length = n := ⟨_, rfl⟩
      obtain ⟨nc', hnc⟩ : ∃ n, l''.length = n := ⟨_, rfl⟩
      rw [hna] at d0 HV
      rw [hnc] at d1 HV
      clear hd5 ra rc hm hna hnc d2 f0 f1 f2
      go_wp2_with fail
      refine bodyPost_ret (v := .tuple #[.agg #[.slice Pa' na' ca', .slice Pc' nc' cc'], .int .i64 0]) (by simp [results, Tryz.results83, go_sem, q0, q1]) rfl (.inr (.inr ⟨HS.out, rfl, _, rfl, HV.out, ?_, ?_⟩))
      · exact HKK.out _ _ r HK.out HR.out.1 (noint2 HZ5.out) (chg2 w5 r _ _) (by rw [set_size, set_size]; exact Nat.le_refl _)
      · exact HB5.out.trans (BO.of_below (((Below.refl _ _).setCell (p := ⟨r, 0, none⟩) HR.out.1 _).setCell (p := ⟨r, 1, none⟩) HR.out.1 _))
    · have t5 : (e0 != 0) = true := by simpa using he
      have HE := Lib.hid he
      clear he
      go_wp2_with fail
      refine bodyPost_ret (v := .tuple #[zS, .int .i64 e0]) (by simp [results, Tryz.results83, go_sem, zS, q0, q1]) rfl (.inr (.inl ⟨HS.out, HE.out, rfl, ?_, ?_⟩))
      · exact HKK.out _ _ r HK.out HR.out.1 (noint2 HZ5.out) (chg2 w5 r _ _) (by rw [set_size, set_size]; exact Nat.le_refl _)
      · exact HB5.out.trans (BO.of_below (((Below.refl _ _).setCell (p := ⟨r, 0, none⟩) HR.out.1 _).setCell (p := ⟨r, 1, none⟩) HR.out.1 _))
/-- A block that holds no byte. -/
def NoU8 (w : World) (r : Nat) : Prop := ∀ i x, w.cell? ⟨r, i, none⟩ ≠ some (.int .u8 x)
theorem NoInt.u8 {w : World} {r : Nat} (h : NoInt w r) : NoU8 w r := fun i x => h i .u8 x
theorem row_besideU {w w' : World} {r : Nat} {v : Value} {l : List Int} (h : Row elB w v l) (hr : NoU8 w r) (hc : Chg w w' (some r)) (hs : w.heap.size ≤ w'.heap.size) : Row elB w' v l := by
  obtain ⟨⟨A, c, h1, h2, h3, h4⟩, h5⟩ := h
  refine ⟨⟨A, c, h1, h2, h3, fun h0 => ?_⟩, h5⟩
  obtain ⟨g, off, e, hg, hC⟩ := h4 h0
  refine ⟨g, off, e, by omega, fun j p hp i u hu => ?_⟩
  have h6 := hC j p hp i u hu
  have hne : g ≠ r := by
    intro e1
    subst e1
    have : u = .int .u8 p := by
      have hi := (List.getElem?_eq_some_iff.1 hu).1
      have : i = 0 := by simp [elB] at hi; omega
      subst this
      simpa [elB] using hu.symm
    rw [this] at h6
    exact hr _ _ h6
  rw [World.cell?_of_block (a := ⟨g, off + j * elB.s + i, none⟩) (hc g hg (by intro e1; exact hne (Option.some.inj e1)))]
  exact h6
def zCells : Obj := .cells #[.int .i64 0, .slice none 0 0, .int .i64 0, .bool false] 72 (0, 0)
theorem nou8_4 {w : World} {r : Nat} (h : w.heap[r]? = some zCells) : NoU8 w r := fun i x e => by
  unfold zCells at h
  rw [(cells_at h i).1] at e
  match i, e with
  | 0, e => cases e
  | 1, e => cases e
  | 2, e => cases e
  | 3, e => cases e
  | i + 4, e => cases e
/-- What is open, in a variable. -/
def CtlAt (w : World) (b : Nat) (c : Ctl) : Prop := ∃ v, w.heap[b]? = some (.cells #[.int .i64 c.op, v, .int .i64 c.ht, .bool c.dead] 72 (0, 0)) ∧ Row elB w v c.fin
theorem CtlAt.zero {w : World} {b : Nat} (h : w.heap[b]? = some zCells) : CtlAt w b zeroC := ⟨_, h, Row.nil _ _⟩
theorem set4_heap {w : World} {b : Nat} {cur : Array Value} {e : TypeId} (h : w.heap[b]? = some (.cells cur e (0, 0))) (x0 x1 x2 x3 : Value) (hc : cur.size = 4) : ((((w.setCell ⟨b, 0, none⟩ x0).setCell ⟨b, 1, none⟩ x1).setCell ⟨b, 2, none⟩ x2).setCell ⟨b, 3, none⟩ x3).heap[b]? = some (.cells #[x0, x1, x2, x3] e (0, 0)) := by
  rw [set_heap (set_heap (set_heap (set_heap h x0) x1) x2) x3]
  obtain ⟨l⟩ := cur
  match l, hc with
  | [a, b, c, d], _ => rfl
theorem BO.set4 {B b : Nat} {w w' : World} (h : Below B w w') (hB : B ≤ w.heap.size) (x0 x1 x2 x3 : Value) : BO B (some b) w ((((w'.setCell ⟨b, 0, none⟩ x0).setCell ⟨b, 1, none⟩ x1).setCell ⟨b, 2, none⟩ x2).setCell ⟨b, 3, none⟩ x3) :=
  ⟨h.os, h.tape, h.output, by rw [set_size, set_size, set_size, set_size]; exact h.size, fun k hk hne => (chg4 w' b x0 x1 x2 x3 k (Nat.lt_of_lt_of_le hk (Nat.le_trans hB h.size)) hne).trans (h.block k hk)⟩
def closeV (vals : List Int) (cs : List Ctl) : Option (List Int × Ctl) := match cs.getLast? with
  | none => none
  | some c => match wantV (some c) vals c.fin.reverse with
    | none => none
    | some vs => if (vs.length : Int) ≠ c.ht then none else some (vs, c)
def cvE (o : Option (List Int × Ctl)) : Int := match o with
  | none => 5
  | some _ => 0
def cvC (o : Option (List Int × Ctl)) : Ctl := match o with
  | none => zeroC
  | some p => p.2
def cvL (o : Option (List Int × Ctl)) : List Int := match o with
  | none => []
  | some p => p.1
def closeMade (s : Stk) (o : Option (List Int × Ctl)) : Stk × Ctl × Int := if sane s = false then (none_, zeroC, 1) else match o with
  | none => (none_, zeroC, 5)
  | some (vs, c) => (⟨vs, s.cs.dropLast⟩, c, 0)
theorem closeS_is (s : Stk) : closeS s = closeMade s (closeV s.vals s.cs) := by
  unfold closeS closeMade closeV
  split
  · rfl
  · cases s.cs.getLast? with
    | none => rfl
    | some c =>
      simp only
      cases wantV (some c) s.vals c.fin.reverse with
      | none => rfl
      | some vs =>
        simp only
        split <;> rfl
theorem closed1 {B D b : Nat} {vv cv : Value} {vals : List Int} {l : List CtV} {W : World} (h : Dr W B D vv cv vals l) (hl : vals.length ≤ 1000000) (hll : l.length ≤ 1000000) (hfl : ∀ p ∈ l, p.1.fin.length ≤ 1000000) (hb : b < B) (hz : W.heap[b]? = some zCells) :
    Calls Tryz.prog 84 #[.pointer (some ⟨D, 0, none⟩), .pointer (some ⟨b, 0, none⟩)] W fun e W' => e = .returned (.int .i64 (cvE (closeV vals (l.map (·.1))))) ∧ CtlAt W' b (cvC (closeV vals (l.map (·.1)))) ∧ (cvE (closeV vals (l.map (·.1))) = 0 → ∀ W2, (∀ k, B ≤ k → k < W'.heap.size → W2.heap[k]? = W'.heap[k]?) → Left W2 D ⟨cvL (closeV vals (l.map (·.1))), (l.map (·.1)).dropLast⟩) ∧ BO B (some b) W W' := by
  have hBw : B ≤ W.heap.size := Nat.le_trans h.hD (Nat.le_of_lt h.lt)
  have key : Calls Tryz.prog 85 #[.pointer (some ⟨D, 0, none⟩)] W fun e w' => Below B W w' ∧ ((closeV vals (l.map (·.1)) = none ∧ ClosedNo e) ∨ ∃ p vs, closeV vals (l.map (·.1)) = some (vs, p.1) ∧ ClosedYes B D p ⟨vs, (l.map (·.1)).dropLast⟩ e w') := by
    cases hp : l.getLast? with
    | none =>
      have h0 : l = [] := List.getLast?_eq_none_iff.1 hp
      subst h0
      exact (close_none h hBw).mono fun e w' hh => ⟨hh.2, .inl ⟨rfl, hh.1⟩⟩
    | some p =>
      obtain ⟨q, rfl⟩ : ∃ q, l = q ++ [p] := List.getLast?_eq_some_iff.1 hp
      have e1 : ((q ++ [p]).map (·.1)).getLast? = some p.1 := by simp
      have e2 : ((q ++ [p]).map (·.1)).dropLast = q.map (·.1) := by simp
      have ec : closeV vals ((q ++ [p]).map (·.1)) = match wantV (some p.1) vals p.1.fin.reverse with
        | none => none
        | some vs => if (vs.length : Int) ≠ p.1.ht then none else some (vs, p.1) := by
        unfold closeV
        rw [e1]
      refine (close_some h hl (hfl p (by simp)) (by simp at hll; omega) hBw _ rfl).mono fun e w' hh => ⟨hh.2.2, ?_⟩
      rw [ec, e2]
      cases hw : wantV (some p.1) vals p.1.fin.reverse with
      | none => exact .inl ⟨rfl, hh.1 (fun vs hvs => by rw [hw] at hvs; cases hvs)⟩
      | some vs =>
        by_cases hv : (vs.length : Int) = p.1.ht
        · exact .inr ⟨p, vs, by simp [hv], hh.2.1 vs hw hv⟩
        · exact .inl ⟨by simp [hv], hh.1 (fun vs' hvs => by rw [hw] at hvs; obtain rfl := Option.some.inj hvs; exact hv)⟩
  have HC := Lib.hid key
  have HZ := Lib.hid hz
  have HB := Lib.hid hb
  have HBw := Lib.hid hBw
  have HD := Lib.hid h.hD
  generalize closeV vals (l.map (·.1)) = o at *
  clear h hl hll hfl hb hz key hBw
  go_enter Tryz.func84, Tryz.ntmps84
  go_wp2_with fail
  refine HC.out.mono ?_
  rintro e w1 ⟨hbe, hw⟩
  have HBe := Lib.hid hbe
  have hz1 := (hbe.block b HB.out).trans HZ.out
  have HZ1 := Lib.hid hz1
  unfold zCells at hz1
  obtain ⟨q0, p0⟩ := cells_at hz1 0
  obtain ⟨q1, p1⟩ := cells_at hz1 1
  obtain ⟨q2, p2⟩ := cells_at hz1 2
  obtain ⟨q3, p3⟩ := cells_at hz1 3
  simp only [List.getElem?_toArray, List.getElem?_cons_zero, List.getElem?_cons_succ] at q0 q1 q2 q3
  rcases hw with ⟨rfl, he⟩ | ⟨p, vs, rfl, he, hL⟩
  · unfold ClosedNo zC at he
    subst he
    have HQ := Lib.hid (CtlAt.zero (set4_heap hz1 (.int .i64 0) (.slice none 0 0) (.int .i64 0) (.bool false) rfl))
    clear hz1 hbe
    go_wp2_with fail
    exact bodyPost_ret (v := .int .i64 5) (by simp [results, Tryz.results84, go_sem]) rfl ⟨rfl, HQ.out, (fun h => absurd h (by decide)), BO.set4 HBe.out HBw.out _ _ _ _⟩
  · unfold cc at he
    subst he
    have hhi : ∀ k, B ≤ k → k < w1.heap.size → ((((w1.setCell ⟨b, 0, none⟩ (.int .i64 p.1.op)).setCell ⟨b, 1, none⟩ p.2).setCell ⟨b, 2, none⟩ (.int .i64 p.1.ht)).setCell ⟨b, 3, none⟩ (.bool p.1.dead)).heap[k]? = w1.heap[k]? := fun k h1 h2 => chg4 w1 b _ _ _ _ k h2 (by intro e; have := Option.some.inj e; have := HB.out; omega)
    have HQ : Hid (CtlAt ((((w1.setCell ⟨b, 0, none⟩ (.int .i64 p.1.op)).setCell ⟨b, 1, none⟩ p.2).setCell ⟨b, 2, none⟩ (.int .i64 p.1.ht)).setCell ⟨b, 3, none⟩ (.bool p.1.dead)) b p.1) := ⟨p.2, set4_heap hz1 _ _ _ _ rfl, (hL _ hhi).2⟩
    have HLL : Hid (∀ W2 : World, (∀ k, B ≤ k → k < ((((w1.setCell ⟨b, 0, none⟩ (.int .i64 p.1.op)).setCell ⟨b, 1, none⟩ p.2).setCell ⟨b, 2, none⟩ (.int .i64 p.1.ht)).setCell ⟨b, 3, none⟩ (.bool p.1.dead)).heap.size → W2.heap[k]? = ((((w1.setCell ⟨b, 0, none⟩ (.int .i64 p.1.op)).setCell ⟨b, 1, none⟩ p.2).setCell ⟨b, 2, none⟩ (.int .i64 p.1.ht)).setCell ⟨b, 3, none⟩ (.bool p.1.dead)).heap[k]?) → Left W2 D ⟨vs, (l.map (·.1)).dropLast⟩) := fun W2 hW => (hL W2 fun k h1 h2 => (hW k h1 (by rw [set_size, set_size, set_size, set_size]; exact h2)).trans (hhi k h1 h2)).1
    obtain ⟨Pe, ne, ce, hpe⟩ : ∃ P n c, p.2 = .slice P n c := by
      obtain ⟨A, c, e, _⟩ := (hL w1 (fun _ _ _ => rfl)).2.form
      exact ⟨_, _, _, e⟩
    rw [hpe] at HQ HLL ⊢
    clear hz1 hbe hhi hL hpe
    go_wp2_with fail
    exact bodyPost_ret (v := .int .i64 0) (by simp [results, Tryz.results84, go_sem]) rfl ⟨rfl, HQ.out, (fun _ => HLL.out), BO.set4 HBe.out HBw.out _ _ _ _⟩
end Go.Proofs.YtlappkflnlbfcaaGreatDoor.Stk
end
