/- The law's theirs, walked: the same stack, as the document's. -/
import Derived.Test.YtlappkflnlbfcaaStkSame
import Derived.Test.YtlappkflnlbfcaaStackDeadWalk
import Derived.Deep.RegionLaw
namespace Go.Proofs.Ytlappkflnlbfcaa.Stk
open Go.RowKit Row9
set_option maxRecDepth 100000
set_option maxHeartbeats 4000000
set_option linter.unusedVariables false
/-- A row of the call's own does not lie in a block of another type. -/
theorem own_notB {w : World} {B b e s n : Nat} {v : Value} {xs : List Value} {cur : Array Value} {t : TypeId} (h : w.ownsRow B e s v n xs) (hb : w.heap[b]? = some (.cells cur t (0, 0))) (hne : e ≠ t) {k : Nat} (hk : v.ownBlock = some k) : k ≠ b := by
  intro e1
  subst e1
  obtain ⟨cur', h1⟩ := own_type h hk
  rw [hb] at h1
  simp only [Option.some.injEq, Obj.cells.injEq] at h1
  exact hne h1.2.1.symm
def ThEnds (s : Stk) (w : World) (e : Ending) (w' : World) : Prop := (∃ P n c Q m d, e = .returned (.agg #[.slice P n c, .slice Q m d]) ∧ StIs elD w' (.agg #[.slice P n c, .slice Q m d]) s) ∧ Below w.heap.size w w'
theorem theirs_any {v : Value} {s : Stk} {w : World} (h : StIs elP w v s) (hl : s.cs.length ≤ 400000) : Calls Try.prog 12 #[v] w (ThEnds s w) := by
  obtain ⟨P, np, cp, Q, m, d, rfl⟩ := StIs.form (T := elP) h
  obtain ⟨l, hrb, hrc, hml, hnv, hnl, hnc⟩ := h.rows
  have HB3 := Lib.hid (below3 w (.cells #[.slice P np cp, .slice Q m d] 30) (.cells #[.slice none 0 0, .slice none 0 0] 25) (.cells #[.slice P np cp, .slice none 0 0] 25))
  have HA := Lib.hid hrb
  have HC := Lib.hid hrc
  have HML := Lib.hid hml
  have HNL := Lib.hid hnl
  have hbig : m ≤ 400000 := by omega
  have HX0 : Hid ((((w.alloc (.cells #[.slice P np cp, .slice Q m d] 30)).alloc (.cells #[.slice none 0 0, .slice none 0 0] 25)).alloc (.cells #[.slice P np cp, .slice none 0 0] 25)).heap[w.heap.size]? = some (.cells #[.slice P np cp, .slice Q m d] 30 (0, 0))) := by
    show _ = _
    rw [(below2 (w.alloc (.cells #[.slice P np cp, .slice Q m d] 30)) (.cells #[.slice none 0 0, .slice none 0 0] 25) (.cells #[.slice P np cp, .slice none 0 0] 25)).block w.heap.size (by rw [size_new]; omega)]
    exact heap_new w _
  have HR0 : Hid ((((w.alloc (.cells #[.slice P np cp, .slice Q m d] 30)).alloc (.cells #[.slice none 0 0, .slice none 0 0] 25)).alloc (.cells #[.slice P np cp, .slice none 0 0] 25)).heap[w.heap.size + 1]? = some (.cells #[.slice none 0 0, .slice none 0 0] 25 (0, 0))) := by
    show _ = _
    rw [(below_new ((w.alloc (.cells #[.slice P np cp, .slice Q m d] 30)).alloc (.cells #[.slice none 0 0, .slice none 0 0] 25)) (.cells #[.slice P np cp, .slice none 0 0] 25)).block (w.heap.size + 1) (by rw [size_new, size_new]; omega)]
    have := heap_new (w.alloc (.cells #[.slice P np cp, .slice Q m d] 30)) (.cells #[.slice none 0 0, .slice none 0 0] 25)
    rw [size_new] at this
    exact this
  have HO0 := Lib.hid (heap_new ((w.alloc (.cells #[.slice P np cp, .slice Q m d] 30)).alloc (.cells #[.slice none 0 0, .slice none 0 0] 25)) (.cells #[.slice P np cp, .slice none 0 0] 25))
  simp only [size_new] at HO0
  clear h hrb hrc hml hnv hnl hnc hl
  go_enter Try.func12, Try.ntmps12
  go_wp2_with fail
  generalize ((w.alloc (.cells #[.slice P np cp, .slice Q m d] 30)).alloc (.cells #[.slice none 0 0, .slice none 0 0] 25)).alloc (.cells #[.slice P np cp, .slice none 0 0] 25) = w2 at *
  obtain ⟨x, hx⟩ : ∃ x, w.heap.size = x := ⟨_, rfl⟩
  obtain ⟨r, hr⟩ : ∃ r, x + 1 = r := ⟨_, rfl⟩
  obtain ⟨o, ho⟩ : ∃ o, r + 1 = o := ⟨_, rfl⟩
  rw [hx] at HX0 HR0 HO0 HB3
  rw [hr] at HR0 HO0
  rw [ho] at HO0
  have HXR : Hid (x < r ∧ r < o) := ⟨by omega, by omega⟩
  simp only [hx]
  simp only [hr]
  simp only [ho]
  clear hr ho
  go_loopw [4] (fun i' wr => ∃ (i : Nat) (S : Option Addr) (k : Nat), i' = .int .i64 (i : Int) ∧ i ≤ m ∧ Below x w wr ∧ wr.heap[x]? = some (.cells #[.slice P np cp, .slice Q m d] 30 (0, 0)) ∧ wr.heap[r]? = some (.cells #[.slice none 0 0, .slice none 0 0] 25 (0, 0)) ∧ wr.heap[o]? = some (.cells #[.slice P np cp, .slice S i k] 25 (0, 0)) ∧ Own elD wr x (.slice S i k) (l.take i)) (fun i' _ => m - (intOf i').toNat)
  case atStart => exact ⟨0, none, 0, by go_num, Nat.zero_le _, HB3.out, HX0.out, HR0.out, HO0.out, own_nil _ _ _⟩
  case round =>
    obtain ⟨i, S, k, rfl, hi, hbe, hx0, hr0, ho0, hO⟩ := hrel
    have HBe := Lib.hid hbe
    have HX := Lib.hid hx0
    have HR := Lib.hid hr0
    have HOo := Lib.hid ho0
    have HOw := Lib.hid hO
    obtain ⟨a0, a1⟩ := cells2 hx0
    obtain ⟨o0, o1⟩ := cells2 ho0
    have HWr : Hid (Below w.heap.size w wr) := by rw [hx]; exact hbe
    clear hbe hx0 hr0 ho0 hO
    by_cases hlt : i < m
    · obtain ⟨p, hp⟩ : ∃ p, l[i]? = some p := ⟨_, List.getElem?_eq_getElem (by rw [HNL.out]; exact hlt)⟩
      obtain ⟨g, off, rfl, hg, k0, k1, k2, k3, hOk⟩ := ctl_at (HC.out.keep HWr.out) hp
      have htk : l.take (i + 1) = l.take i ++ [p] := by
        obtain ⟨h1, h2⟩ := List.getElem?_eq_some_iff.1 hp
        rw [List.take_succ_eq_append_getElem h1, h2]
      have hil : (l.take i).length + 1 = i + 1 := by rw [List.length_take, HNL.out]; omega
      obtain ⟨⟨op, fin, ht, dd⟩, u⟩ := p
      obtain ⟨Pe, ce, hpe, _⟩ := hOk.1.form
      obtain ⟨ne, hne⟩ : ∃ ne, fin.length = ne := ⟨_, rfl⟩
      simp only at k0 k1 k2 k3 hpe
      rw [hne] at hpe
      subst hpe
      have HOk := Lib.hid hOk
      have HTK := Lib.hid htk
      have HIL := Lib.hid hil
      obtain ⟨qq, hqq⟩ : ∃ qq, off + i * 4 = qq := ⟨_, rfl⟩
      rw [hqq] at k0 k1 k2 k3
      have i1 : (0 : Int) ≤ (i : Int) := by omega
      have i2 : (i : Int) < (m : Int) := by omega
      have hw1 : IntKind.i64.wrap ((i : Int) + 1) = (i : Int) + 1 := IntWalk.i64_in _ (by omega)
      have HD := Lib.hid (below_drew1 wr)
      have hxs : x ≤ wr.heap.size := by rw [← hx]; exact HWr.out.size
      clear hp hg hOk htk hil hne
      go_wp2_with fail
      go_region_law (first
        | (go_simp; go_at_call 24; refine ctrl_any.mono ?_; rintro en w6 ⟨rfl, hb6⟩; have HB6 := Lib.hid (HD.out.trans hb6); obtain ⟨y0, y1⟩ := cells2 ((HB6.out.block o (lt_of_heap HOo.out)).trans HOo.out); have hol : o < w6.heap.size := Nat.lt_of_lt_of_le (lt_of_heap HOo.out) HB6.out.size; clear hb6)
        | (refine step_oneG elD 23 Try.underlying23 (w6.alloc (.cells #[.int .i64 op, .slice Pe ne ce, .int .i64 ht, .bool dd] 49)) rfl (.tmp 16) (.tmp 23) rfl x _ (l.take i) (⟨op, fin, ht, dd⟩, .slice Pe ne ce) (i + 1) ((HOk.out.keep HB6.out).keep (below_new w6 _)) (by rfl) (own_keep HOw.out (HB6.out.trans ((below_new w6 _).mono HB6.out.size))) w6.heap.size (by rfl) (newG' elD w6 _ _ _ rfl rfl) HIL.out (by omega) (by decide) (Nat.le_trans hxs (Nat.le_trans HB6.out.size (below_new w6 _).size)) ?_; intro g7 c7 w7 ho7 hb7 hc7; have ho8 := (hc7 o (Nat.lt_of_lt_of_le (lt_of_heap HOo.out) (Nat.le_trans HB6.out.size (below_new w6 _).size)) (fun e => own_notB HOw.out HOo.out (by decide) e.symm rfl)).trans (((HB6.out.trans ((below_new w6 (.cells #[.int .i64 op, .slice Pe ne ce, .int .i64 ht, .bool dd] 49)).mono HB6.out.size)).block o (lt_of_heap HOo.out)).trans HOo.out); obtain ⟨r0, r1⟩ := cells2 ho8; have f1 := (cells_at ho8 1).2))
      all_goals (
        have HO8 := Lib.hid ho8
        have HB68 : Hid (Below wr.heap.size wr (w6.alloc (.cells #[.int .i64 op, .slice Pe ne ce, .int .i64 ht, .bool dd] 49))) := HB6.out.trans ((below_new w6 _).mono HB6.out.size)
        have HX8 := Lib.hid ((hc7 x (Nat.lt_of_lt_of_le (lt_of_heap HX.out) HB68.out.size) (fun e => own_notB HOw.out HX.out (by decide) e.symm rfl)).trans ((HB68.out.block x (lt_of_heap HX.out)).trans HX.out))
        have HR8 := Lib.hid ((hc7 r (Nat.lt_of_lt_of_le (lt_of_heap HR.out) HB68.out.size) (fun e => own_notB HOw.out HR.out (by decide) e.symm rfl)).trans ((HB68.out.block r (lt_of_heap HR.out)).trans HR.out))
        have HOw8 := Lib.hid (own_stay ho7 (w' := w7.setCell ⟨o, 1, none⟩ (.slice (some ⟨g7, 0, none⟩) (i + 1) c7)) fun kk hkk => chg_set w7 o 1 _ kk (World.ownsRow.lt ho7 kk hkk).2 (by intro e; exact own_notB ho7 ho8 (by decide) hkk (Option.some.inj e)))
        have HB8 := Lib.hid (((HBe.out.trans (HB68.out.mono hxs)).trans hb7).setCell (p := ⟨o, 1, none⟩) (by show x ≤ o; have := HXR.out; omega) (.slice (some ⟨g7, 0, none⟩) (i + 1) c7))
        clear ho8 ho7 hb7 hc7 hol y0 y1 k0 k1 k2 k3 a0 a1 o0 o1
        go_wp2_with fail
        go_roundw
        case rel =>
          refine ⟨i + 1, some ⟨g7, 0, none⟩, c7, by go_num, hlt, HB8.out, ?_, ?_, ?_, by rw [HTK.out]; exact HOw8.out⟩
          · rw [chg_set w7 o 1 _ x (lt_of_heap HX8.out) (by intro e; have := HXR.out; have := Option.some.inj e; omega)]
            exact HX8.out
          · rw [chg_set w7 o 1 _ r (lt_of_heap HR8.out) (by intro e; have := HXR.out; have := Option.some.inj e; omega)]
            exact HR8.out
          · rw [set_heap HO8.out]
            rfl
        case measure => simp [intOf]; omega)
    · obtain rfl : i = m := by omega
      have HTK : Hid (l.take i = l) := List.take_of_length_le (by rw [HNL.out]; exact Nat.le_refl _)
      rw [HTK.out] at HOw
      obtain ⟨q0, q1⟩ := cells2 HR.out
      have p0 := (cells_at HR.out 0).2
      have p1 := (cells_at HR.out 1).2
      have HRow := Lib.hid (own_stay HOw.out (w' := (wr.setCell ⟨r, 0, none⟩ (.slice P np cp)).setCell ⟨r, 1, none⟩ (.slice S i k)) fun kk hkk => chg2 wr r _ _ kk (World.ownsRow.lt HOw.out kk hkk).2 (by intro e; exact own_notB HOw.out HR.out (by decide) hkk (Option.some.inj e)))
      have HBf := Lib.hid ((HBe.out.setCell (p := ⟨r, 0, none⟩) (by show x ≤ r; have := HXR.out; omega) (.slice P np cp)).setCell (p := ⟨r, 1, none⟩) (by show x ≤ r; have := HXR.out; omega) (.slice S i k))
      have NE : o ≠ r := by have := HXR.out; omega
      go_wp2_with fail
      refine bodyPost_ret (v := .agg #[.slice P np cp, .slice S i k]) (by simp [results, Try.results12, go_sem, q0, q1]) rfl ⟨⟨_, _, _, _, _, _, rfl, _, _, l, rfl, ?_, ?_, HML.out⟩, by rw [hx]; exact HBf.out⟩
      · exact HA.out.keep (by rw [hx]; exact HBf.out)
      · exact Own.row HRow.out fun p hp => (HC.out.2 p hp).keep (by rw [hx]; exact HBf.out)
end Go.Proofs.Ytlappkflnlbfcaa.Stk
