/- The draft's changes, walked: kill. -/
import Derived.Test.YtlappkflnlbfcaaStkWant
namespace Go.Proofs.Ytlappkflnlbfcaa.Stk
open Go.RowKit Row9
set_option maxRecDepth 100000
set_option maxHeartbeats 2000000
set_option linter.unusedVariables false
theorem below_drew1 (w : World) : Below w.heap.size w w.drew := ⟨rfl, rfl, rfl, Nat.le_refl _, fun _ _ => rfl⟩
theorem own_set {w : World} {B g e s n n0 c i : Nat} {xs : List Value} {v : Value} (h : w.ownsRow B e s (.slice (some ⟨g, 0, none⟩) n0 c) n xs) (hi : i < n * s) : (w.setCell ⟨g, i, none⟩ v).ownsRow B e s (.slice (some ⟨g, 0, none⟩) n0 c) n (xs.set i v) := by
  obtain ⟨h1, ⟨h2, h3⟩ | ⟨g', cap, cur, hv, hB, hc, hle, hm, hsz, ht⟩⟩ := h
  · cases h2
  · have hg : g = g' := by
      injection hv with e1 _ _
      simpa using e1
    subst hg
    refine ⟨by rw [List.length_set]; exact h1, .inr ⟨g, cap, cur.setIfInBounds i v, hv, hB, heap_setCell_same w g i cur e v hc, hle, hm, by rw [Array.size_setIfInBounds]; exact hsz, ?_⟩⟩
    rw [Array.toList_setIfInBounds, List.take_set, ht]
def deadC (p : CtV) : CtV := ({ p.1 with dead := true }, p.2)
theorem flat_dead (q : List CtV) (p : CtV) : ((q ++ [p]).flatMap elP.enc).set (q.length * 4 + 3) (.bool true) = (q ++ [deadC p]).flatMap elP.enc := by
  have hl : (q.flatMap elP.enc).length = q.length * 4 := Row9.flat_len elP q
  rw [List.flatMap_append, List.flatMap_append, List.set_append_right _ _ (by omega), hl, show q.length * 4 + 3 - q.length * 4 = 3 from by omega]
  rfl
theorem own_dead {w : World} {B g n c m : Nat} {q : List CtV} {p : CtV} (h : Own elP w B (.slice (some ⟨g, 0, none⟩) n c) (q ++ [p])) (hm : q.length = m) : Own elP (w.setCell ⟨g, m * 4 + 3, none⟩ (.bool true)) B (.slice (some ⟨g, 0, none⟩) n c) (q ++ [deadC p]) := by
  subst hm
  have := own_set (v := .bool true) (i := q.length * 4 + 3) h (by rw [List.length_append, List.length_singleton]; show _ < (q.length + 1) * 4; omega)
  rw [flat_dead] at this
  have e : (q ++ [deadC p]).length = (q ++ [p]).length := by rw [List.length_append, List.length_append]; rfl
  unfold Row9.Own
  rw [e]
  exact this
theorem Dr.killed {w : World} {B D g n c m : Nat} {vv vv' : Value} {vals vals' : List Int} {q : List CtV} {p : CtV} (h : Dr w B D vv (.slice (some ⟨g, 0, none⟩) n c) vals (q ++ [p])) (hO : Own elB w B vv' vals') (hR : ∀ x ∈ vals', 0 ≤ x ∧ x < 256) (hm : q.length = m) :
    Left ((w.setCell ⟨D, 0, none⟩ vv').setCell ⟨g, m * 4 + 3, none⟩ (.bool true)) D ⟨vals', q.map (·.1) ++ [{ p.1 with dead := true }]⟩ := by
  have hg : g ≠ D := fun e => own_notD h.cO h.blk (by decide) (k := g) rfl e
  have key : ∀ {s n' : Nat} {v : Value} {xs : List Value}, w.ownsRow B 5 s v n' xs → ((w.setCell ⟨D, 0, none⟩ vv').setCell ⟨g, m * 4 + 3, none⟩ (.bool true)).ownsRow B 5 s v n' xs := fun hh => by
    have h1 := own_setD hh h.blk (by decide) 0 vv'
    have h2 := own_setD h.cO h.blk (by decide) 0 vv'
    exact own_stay h1 fun k hk => chg_set _ g (m * 4 + 3) _ k (World.ownsRow.lt h1 k hk).2 (own_ne h1 h2 (by decide) hk)
  refine ⟨vv', .slice (some ⟨g, 0, none⟩) n c, innP (.slice (some ⟨g, 0, none⟩) n c), q ++ [deadC p], ?_, Own.row (key hO) hR, Own.row (own_dead (own_setD h.cO h.blk (by decide) 0 vv') hm) ?_, by simp [deadC]⟩
  · rw [chg_set _ g (m * 4 + 3) _ D (by rw [set_size]; exact h.lt) (by intro e; exact hg (Option.some.inj e).symm), drCells, set_heap h.blk]
    rfl
  · intro r hr
    rcases List.mem_append.1 hr with hr | hr
    · obtain ⟨e1, e2, e3, e4, e5, e6⟩ := h.ok r (List.mem_append_left _ hr)
      exact ⟨Own.row (key e1) e3, e4, e5⟩
    · obtain rfl := List.mem_singleton.1 hr
      obtain ⟨e1, e2, e3, e4, e5, e6⟩ := h.ok p (by simp)
      exact ⟨Own.row (key e1) e3, e4, e5⟩
theorem kill_none {B D : Nat} {vv cv : Value} {vals : List Int} {w : World} (h : Dr w B D vv cv vals []) (s : Stk) :
    Calls Try.prog 40 #[.pointer (some ⟨D, 0, none⟩)] w fun e w' => MadeTold D 5 s e w' ∧ Below B w w' := by
  obtain ⟨c0, c1, c2, f0, f1, f2⟩ := dr_cells h.blk
  rw [h.outer rfl] at c2
  clear h
  go_enter Try.func40, Try.ntmps40
  go_wp2_with fail
  exact bodyPost_ret (v := .int .i64 5) (by simp [results, Try.results40, go_sem]) rfl ⟨⟨rfl, fun h => absurd h (by decide)⟩, Below.refl _ _⟩
theorem kill_some {B D k : Nat} {vv cv : Value} {vals : List Int} {q : List CtV} {p : CtV} {w : World} (h : Dr w B D vv cv vals (q ++ [p])) (hk : p.1.ht = (k : Int)) (hkl : k ≤ vals.length) (hBw : B ≤ w.heap.size) :
    Calls Try.prog 40 #[.pointer (some ⟨D, 0, none⟩)] w fun e w' => MadeTold D 0 ⟨vals.take k, q.map (·.1) ++ [{ p.1 with dead := true }]⟩ e w' ∧ Below B w w' := by
  have HB := Lib.hid (below_drew1 w)
  have HH := Lib.hid (h.keep HB.out)
  have HT : Hid (∀ A n c, vv = .slice A n c → Own elB w.drew B (.slice A k c) (vals.take k)) := fun A n c e => by
    have hO := HH.out.vO
    rw [e] at hO
    exact Own.take hO k hkl
  obtain ⟨b0, b1, b2, d0, d1, d2⟩ := dr_cells h.blk
  obtain ⟨c0, c1, c2, f0, f1, f2⟩ := dr_cells HH.out.blk
  obtain ⟨g, cc_, qq, m, rfl, x1, x2, x3, x4, e2, hg, hgD, k0, k1, k2, k3, kf, hE⟩ := HH.out.inner (p := p) (by simp)
  have hqm : q.length = m := by simpa using x2
  rw [e2] at c2 b2
  rw [hk] at k2
  have hf3 := kf (qq + 3)
  have HK : Hid (∀ vv', Own elB w.drew B vv' (vals.take k) → Left ((w.drew.setCell ⟨D, 0, none⟩ vv').setCell ⟨g, qq + 3, none⟩ (.bool true)) D ⟨vals.take k, q.map (·.1) ++ [{ p.1 with dead := true }]⟩) := fun vv' hO => by
    rw [x4]
    exact HH.out.killed hO (fun x hx => h.vR x (List.mem_of_mem_take hx)) hqm
  obtain ⟨n, hn⟩ : ∃ n, (q ++ [p]).length = n := ⟨_, rfl⟩
  rw [hn] at c1 b1 HH
  have hD := h.hD
  have HDg : Hid (B ≤ g) := (World.ownsRow.lt HH.out.cO g rfl).1
  obtain ⟨z1, ⟨hv, hl⟩ | ⟨gv, cap, cur, hv, hB, hc, hle, hm, hsz, ht⟩⟩ := id h.vO
  · have hk0 : k = 0 := by omega
    subst hk0
    subst hv
    have HT2 := Lib.hid (HK.out _ (HT.out _ _ _ rfl))
    clear z1 h hkl hl hk x1 x2 x3 x4 e2 hE kf HT HK k0 k1 hqm hn
    go_enter Try.func40, Try.ntmps40
    go_wp2_with fail
    go_still_tail 14, (by kernel_rfl)
    change wpList _ _ _ _ _ w.drew
    have hgD' : (⟨g, qq + 3, none⟩ : Addr) ≠ ⟨D, 0, none⟩ := fun e => hgD (congrArg Addr.block e)
    clear b0 b1 b2 d0 d1 d2
    generalize w.drew = w1 at *
    go_wp2_with fail
    exact bodyPost_ret (v := .int .i64 0) (by simp [results, Try.results40, go_sem]) rfl ⟨⟨rfl, fun _ => HT2.out⟩, ((HB.out.mono hBw).setCell (p := ⟨D, 0, none⟩) hD _).setCell (p := ⟨g, qq + 3, none⟩) HDg.out _⟩
  · subst hv
    have i1 : (0 : Int) ≤ (k : Int) := by omega
    have i2 : (k : Int) ≤ (cap : Int) := by omega
    have i2' : k ≤ cap := by omega
    have HT2 := Lib.hid (HK.out _ (HT.out _ _ _ rfl))
    obtain ⟨nv, hnv⟩ : ∃ nv, vals.length = nv := ⟨_, rfl⟩
    rw [hnv] at c0 b0 HH
    clear z1 h hkl hk x1 x2 x3 x4 e2 hE kf HT HK k0 k1 hqm hn hB hc hle hm hsz ht hnv
    go_enter Try.func40, Try.ntmps40
    go_wp2_with fail
    go_still_tail 14, (by kernel_rfl)
    change wpList _ _ _ _ _ w.drew
    have hgD' : (⟨g, qq + 3, none⟩ : Addr) ≠ ⟨D, 0, none⟩ := fun e => hgD (congrArg Addr.block e)
    clear b0 b1 b2 d0 d1 d2
    generalize w.drew = w1 at *
    go_wp2_with fail
    exact bodyPost_ret (v := .int .i64 0) (by simp [results, Try.results40, go_sem]) rfl ⟨⟨rfl, fun _ => HT2.out⟩, ((HB.out.mono hBw).setCell (p := ⟨D, 0, none⟩) hD _).setCell (p := ⟨g, qq + 3, none⟩) HDg.out _⟩
end Go.Proofs.Ytlappkflnlbfcaa.Stk
