/- The program's own calls of layer 9, walked: Pop. -/
import Derived.Test.YtlappkflnlbfcaaStkPush
namespace Go.Proofs.Ytlappkflnlbfcaa.Stk
open Go.RowKit Row9
set_option maxRecDepth 100000
set_option maxHeartbeats 2000000
set_option linter.unusedVariables false
/-- A draft stays while what is below its base is turned. -/
theorem Dr.high {w W : World} {B D : Nat} {vv cv : Value} {vals : List Int} {l : List CtV} (h : Dr w B D vv cv vals l) (hW : ∀ k, B ≤ k → k < w.heap.size → W.heap[k]? = w.heap[k]?) : Dr W B D vv cv vals l :=
  ⟨h.hD, (hW D h.hD h.lt).trans h.blk, own_stay h.vO fun k hk => hW k (World.ownsRow.lt h.vO k hk).1 (World.ownsRow.lt h.vO k hk).2, h.vR, own_stay h.cO fun k hk => hW k (World.ownsRow.lt h.cO k hk).1 (World.ownsRow.lt h.cO k hk).2, fun p hp => ⟨own_stay (h.ok p hp).1 fun k hk => hW k (World.ownsRow.lt (h.ok p hp).1 k hk).1 (World.ownsRow.lt (h.ok p hp).1 k hk).2, (h.ok p hp).2⟩⟩
theorem BO.set {B b i : Nat} {w w' : World} (h : Below B w w') (u : Value) : BO B (some b) w (w'.setCell ⟨b, i, none⟩ u) :=
  ⟨h.os, h.tape, h.output, by rw [set_size]; exact h.size, fun k hk hne => (Below.heap_setCell _ _ _ _ (by intro e; exact hne (congrArg some e))).trans (h.block k hk)⟩
def pvE (o : Option (List Int × Int)) : Int := match o with
  | none => 5
  | some _ => 0
def pvV (o : Option (List Int × Int)) : Int := match o with
  | none => 0
  | some p => p.2
def pvL (o : Option (List Int × Int)) : List Int := match o with
  | none => []
  | some p => p.1
theorem popped1 {B D b : Nat} {vv cv : Value} {vals : List Int} {l : List CtV} {W : World} (h : Dr W B D vv cv vals l) (hl : vals.length ≤ 1000000) (hb : b < B) (hz : W.heap[b]? = some (.cells #[.int .u8 0] 5 (0, 0))) :
    Calls Try.prog 31 #[.pointer (some ⟨D, 0, none⟩), .pointer (some ⟨b, 0, none⟩)] W fun e W' => e = .returned (.int .i64 (pvE (popV (l.map (·.1)).getLast? vals))) ∧ W'.cell? ⟨b, 0, none⟩ = some (.int .u8 (pvV (popV (l.map (·.1)).getLast? vals))) ∧ (pvE (popV (l.map (·.1)).getLast? vals) = 0 → Left W' D ⟨pvL (popV (l.map (·.1)).getLast? vals), l.map (·.1)⟩) ∧ BO B (some b) W W' := by
  have HP := Lib.hid (pop_any h hl)
  have HD := Lib.hid h.hD
  have HLt := Lib.hid h.lt
  have HZ := Lib.hid hz
  have HB := Lib.hid hb
  generalize popV (l.map (·.1)).getLast? vals = o at *
  clear h hl hz hb
  go_enter Try.func31, Try.ntmps31
  go_wp2_with fail
  refine HP.out.mono ?_
  rintro e w1 hw
  cases o with
  | none =>
    obtain ⟨rfl, hbt⟩ := hw
    have HBe := Lib.hid (hbt.below HD.out HLt.out)
    have hz1 := (HBe.out.block b HB.out).trans HZ.out
    obtain ⟨q0, p0⟩ := cells_at hz1 0
    simp only [List.getElem?_toArray, List.getElem?_cons_zero] at q0
    have HQ := Lib.hid (cells_at (set_heap (i := 0) hz1 (.int .u8 0)) 0).1
    clear hz1 hbt
    go_wp2_with fail
    exact bodyPost_ret (v := .int .i64 5) (by simp [results, Try.results31, go_sem]) rfl ⟨rfl, HQ.out, (fun h => absurd h (by decide)), BO.set HBe.out _⟩
  | some pr =>
    obtain ⟨vs, v⟩ := pr
    obtain ⟨vv1, rfl, hd, hbt⟩ := hw
    have HBe := Lib.hid (hbt.below HD.out HLt.out)
    have hz1 := (HBe.out.block b HB.out).trans HZ.out
    obtain ⟨q0, p0⟩ := cells_at hz1 0
    simp only [List.getElem?_toArray, List.getElem?_cons_zero] at q0
    have HQ := Lib.hid (cells_at (set_heap (i := 0) hz1 (.int .u8 v)) 0).1
    have HL := Lib.hid (hd.high (W := w1.setCell ⟨b, 0, none⟩ (.int .u8 v)) fun k hk _ => Below.heap_setCell _ _ _ _ (by have := HB.out; show k ≠ b; omega)).left
    clear hz1 hbt hd
    go_wp2_with fail
    exact bodyPost_ret (v := .int .i64 0) (by simp [results, Try.results31, go_sem]) rfl ⟨rfl, HQ.out, (fun _ => HL.out), BO.set HBe.out _⟩
/-- How Pop ends. -/
def PopEnds (r : Stk × Int × Int) (w : World) (e : Ending) (w' : World) : Prop := (∃ v, e = .returned (.tuple #[v, .int .u8 r.2.1, .int .i64 r.2.2]) ∧ StIs elP w' v r.1) ∧ Below w.heap.size w w'
def popMade (s : Stk) (o : Option (List Int × Int)) : Stk × Int × Int := if sane s = false then (none_, 0, 1) else match o with
  | none => (none_, 0, 5)
  | some (vs, v) => (⟨vs, s.cs⟩, v, 0)
theorem popS_is (s : Stk) : popS s = popMade s (popV s.cs.getLast? s.vals) := rfl
theorem Pop_any {a c : Value} {vals : List Int} {l : List CtV} {w : World} (ha : Row elB w a vals) (hc : Row elP w c l) (hvl : vals.length ≤ 400000) (hll : l.length ≤ 400000) :
    Calls Try.prog 9 #[.agg #[a, c]] w (PopEnds (popS ⟨vals, l.map (·.1)⟩) w) := by
  have hmf := mkf
  have HA := Lib.hid ha
  have HC := Lib.hid hc
  have HL := Lib.hid hvl
  have HLL := Lib.hid hll
  obtain ⟨Pa, ca, rfl, y1, y2⟩ := ha.form
  obtain ⟨Pc, cc_, rfl, y3, y4⟩ := hc.form
  obtain ⟨nv, hnv⟩ : ∃ n, vals.length = n := ⟨_, rfl⟩
  obtain ⟨nl, hnl⟩ : ∃ n, l.length = n := ⟨_, rfl⟩
  rw [popS_is]
  obtain ⟨o, ho⟩ : ∃ o, popV (l.map (·.1)).getLast? vals = o := ⟨_, rfl⟩
  have HO := Lib.hid ho
  show Calls _ _ _ _ (PopEnds (popMade ⟨vals, l.map (·.1)⟩ (popV (l.map (·.1)).getLast? vals)) w)
  rw [ho]
  rw [hnv] at HA ⊢
  rw [hnl] at HC ⊢
  have HB3 := Lib.hid (below3 w (.cells #[.slice Pa nv ca, .slice Pc nl cc_] 30) (.cells #[.slice none 0 0, .slice none 0 0] 30) (.cells #[.int .u8 0] 5))
  have HZ := Lib.hid (heap_new (w.alloc (.cells #[.slice Pa nv ca, .slice Pc nl cc_] 30)) (.cells #[.slice none 0 0, .slice none 0 0] 30))
  have HZ' : Hid ((((w.alloc (.cells #[.slice Pa nv ca, .slice Pc nl cc_] 30)).alloc (.cells #[.slice none 0 0, .slice none 0 0] 30)).alloc (.cells #[.int .u8 0] 5)).heap[w.heap.size + 1]? = some (.cells #[.slice none 0 0, .slice none 0 0] 30 (0, 0))) := by
    show _ = _
    rw [(below_new ((w.alloc (.cells #[.slice Pa nv ca, .slice Pc nl cc_] 30)).alloc (.cells #[.slice none 0 0, .slice none 0 0] 30)) _).block (w.heap.size + 1) (by simp only [size_new]; omega)]
    have := HZ.out
    rw [size_new] at this
    exact this
  have HX := Lib.hid (heap_new ((w.alloc (.cells #[.slice Pa nv ca, .slice Pc nl cc_] 30)).alloc (.cells #[.slice none 0 0, .slice none 0 0] 30)) (.cells #[.int .u8 0] 5))
  have HSz : Hid ((((w.alloc (.cells #[.slice Pa nv ca, .slice Pc nl cc_] 30)).alloc (.cells #[.slice none 0 0, .slice none 0 0] 30)).alloc (.cells #[.int .u8 0] 5)).heap.size = w.heap.size + 1 + 1 + 1) := by
    show _ = _
    rw [size_new, size_new, size_new]
  simp only [size_new] at HX
  clear HZ y1 y2 y3 y4 ha hc hvl hll hnv hnl ho
  go_enter Try.func9, Try.ntmps9
  go_wp2_with fail
  generalize ((w.alloc (.cells #[.slice Pa nv ca, .slice Pc nl cc_] 30)).alloc (.cells #[.slice none 0 0, .slice none 0 0] 30)).alloc (.cells #[.int .u8 0] 5) = w3 at *
  obtain ⟨b, hb⟩ : ∃ b, w.heap.size + 1 + 1 = b := ⟨_, rfl⟩
  obtain ⟨r, hr⟩ : ∃ r, w.heap.size + 1 = r := ⟨_, rfl⟩
  have HR : Hid (w.heap.size ≤ r ∧ w.heap.size ≤ b ∧ r < b ∧ b < w3.heap.size) := ⟨by omega, by omega, by omega, by rw [HSz.out]; omega⟩
  rw [hb] at HX
  rw [hr] at HZ'
  simp only [hb]
  simp only [hr]
  clear hr hb HSz
  have HCh := Lib.hid (changed_any (b := some b) (e0 := pvE o) (s' := ⟨pvL o, l.map (·.1)⟩) (K := fun W => W.cell? ⟨b, 0, none⟩ = some (.int .u8 (pvV o))) (caps := #[.pointer (some ⟨b, 0, none⟩)]) (HA.out.keep HB3.out) (HC.out.keep HB3.out) (by have := HL.out; omega) (by have := HLL.out; omega) (k := 31) ⟨_, Try.func31, by kernel_rfl, by kernel_rfl⟩
    (fun W W' r' hK hr' _ hch _ => (World.cell?_of_block (a := ⟨b, 0, none⟩) (hch b (World.block_lt_of_cell? W _ hK) (by have := HR.out.2.2.2; intro e; have := Option.some.inj e; omega))).trans hK)
    (fun hsn W B D vv cv l' hB hW hd hl' => by
      have hz := (hW.block b HR.out.2.2.2).trans HX.out
      rw [← HO.out, ← hl']
      exact popped1 hd (by have := HL.out; omega) (Nat.lt_of_lt_of_le HR.out.2.2.2 hB) hz) (fun x hx e => by have := HR.out.2.2.2; have := Option.some.inj e; omega))
  refine HCh.out.mono ?_
  rintro e w4 hch
  have HU : ∃ v ms mv ee, popMade ⟨vals, l.map (·.1)⟩ o = (ms, mv, ee) ∧ e = .returned (.tuple #[v, .int .i64 ee]) ∧ StIs elP w4 v ms ∧ w4.cell? ⟨b, 0, none⟩ = some (.int .u8 mv) ∧ BO w3.heap.size (some b) w3 w4 := by
    unfold popMade
    rcases hch with ⟨h1, h2, h3⟩ | ⟨h1, h2, h3, h4, h5⟩ | ⟨h1, h2, v, h3, h4, h5, h6⟩
    · rw [if_pos h1]
      exact ⟨_, _, _, _, rfl, h2, zS_is _, (h3.cell (p := ⟨b, 0, none⟩) HR.out.2.2.2).trans (cells_at HX.out 0).1, BO.of_below h3⟩
    · rw [if_neg (by rw [h1]; decide)]
      cases o with
      | none => exact ⟨_, _, _, _, rfl, h3, zS_is _, h4, h5⟩
      | some p => exact absurd rfl h2
    · rw [if_neg (by rw [h1]; decide)]
      cases o with
      | none => exact absurd h2 (by decide)
      | some p => exact ⟨_, _, _, _, rfl, h3, h4, h5, h6⟩
  obtain ⟨v, ms, mv, ee, hu, rfl, hv, hmv, hbo⟩ := HU
  have HUU := Lib.hid hu
  have hz4 := (hbo.block r (by have := HR.out; omega) (by have := HR.out; intro e; have := Option.some.inj e; omega)).trans HZ'.out
  have HZ4 := Lib.hid hz4
  have HB4 : Hid (Below w.heap.size w w4) := HB3.out.trans ⟨hbo.os, hbo.tape, hbo.output, hbo.size, fun k hk => hbo.block k (Nat.lt_of_lt_of_le hk HB3.out.size) (by have := HR.out; intro e; have := Option.some.inj e; omega)⟩
  have HRl := Lib.hid (lt_of_heap hz4)
  have HBl := Lib.hid (World.block_lt_of_cell? w4 _ hmv)
  obtain ⟨P1, n1, c1, P2, n2, c2, rfl, _⟩ := hv.store2 hz4
  have HV := Lib.hid hv
  clear hz4 hv hbo hu hch HCh
  have HB5 := Lib.hid (below_new w4 (.cells #[.slice P1 n1 c1, .slice P2 n2 c2] 30))
  have HX5 := Lib.hid (heap_new w4 (.cells #[.slice P1 n1 c1, .slice P2 n2 c2] 30))
  go_wp2_with fail
  generalize w4.alloc (.cells #[.slice P1 n1 c1, .slice P2 n2 c2] 30) = w7 at *
  obtain ⟨x, hx⟩ : ∃ x, w4.heap.size = x := ⟨_, rfl⟩
  have hmv7 := (HB5.out.cell (p := ⟨b, 0, none⟩) HBl.out).trans hmv
  have hz7 := (HB5.out.block r HRl.out).trans HZ4.out
  have HZ7 := Lib.hid hz7
  have HV7 := Lib.hid (HV.out.keep HB5.out)
  have HBf := Lib.hid (HB4.out.trans (HB5.out.mono HB4.out.size))
  rw [hx] at HX5
  simp only [hx]
  have x0 := (cells_at HX5.out 0).1
  have x1 := (cells_at HX5.out 1).1
  simp only [List.getElem?_toArray, List.getElem?_cons_zero, List.getElem?_cons_succ] at x0 x1
  obtain ⟨q0, p0⟩ := cells_at hz7 0
  obtain ⟨q1, p1⟩ := cells_at hz7 1
  simp only [List.getElem?_toArray, List.getElem?_cons_zero, List.getElem?_cons_succ] at q0 q1
  have hrb : b ≠ r := by have := HR.out; omega
  have hrb' : r ≠ b := by have := HR.out; omega
  have hxr : x ≠ r := by have := HRl.out; omega
  clear hx hmv hz7
  go_region
  obtain ⟨P1', n1', c1', P2', n2', c2', e9, hst⟩ := HV7.out.store2 HZ7.out
  simp only [Value.agg.injEq, Array.mk.injEq, List.cons.injEq, Value.slice.injEq, and_true] at e9
  obtain ⟨⟨rfl, rfl, rfl⟩, rfl, rfl, rfl⟩ := e9
  have HST := Lib.hid (hst.keep (below_drew1 _))
  have HBl2 := Lib.hid (((HBf.out.setCell (p := ⟨r, 0, none⟩) HR.out.1 (.slice P1 n1 c1)).setCell (p := ⟨r, 1, none⟩) HR.out.1 (.slice P2 n2 c2)).drew)
  have y0 := (cells_at (set_heap (i := 1) (set_heap (i := 0) HZ7.out (.slice P1 n1 c1)) (.slice P2 n2 c2)) 0).1
  have y1 := (cells_at (set_heap (i := 1) (set_heap (i := 0) HZ7.out (.slice P1 n1 c1)) (.slice P2 n2 c2)) 1).1
  clear hst q0 q1 p0 p1
  generalize ((w7.setCell ⟨r, 0, none⟩ (.slice P1 n1 c1)).setCell ⟨r, 1, none⟩ (.slice P2 n2 c2)) = w8 at *
  have y0 : w8.drew.cell? ⟨r, 0, none⟩ = some (.slice P1 n1 c1) := y0
  have y1 : w8.drew.cell? ⟨r, 1, none⟩ = some (.slice P2 n2 c2) := y1
  generalize w8.drew = w9 at *
  go_wp2_with fail
  refine bodyPost_ret (v := .tuple #[.agg #[.slice P1 n1 c1, .slice P2 n2 c2], .int .u8 mv, .int .i64 ee]) (by simp [results, Try.results9, go_sem, y0, y1]) rfl ⟨⟨_, by rw [HUU.out], by rw [HUU.out]; exact HST.out⟩, HBl2.out⟩
end Go.Proofs.Ytlappkflnlbfcaa.Stk
