/- The draft's changes, walked: open. -/
import Derived.Test.YtlappkflnlbfcaaStkClose
import Derived.Deep.RegionLaw
namespace Go.Proofs.Ytlappkflnlbfcaa.Stk
open Go.RowKit Row9
set_option maxRecDepth 100000
set_option maxHeartbeats 2000000
set_option linter.unusedVariables false
theorem Rw.left {w : World} {B D : Nat} {vv cv pv : Value} {vals : List Int} {l : List CtV} (h : Rw w B vv cv vals l) (hd : w.heap[D]? = some (drCells vv cv pv)) : Left w D ⟨vals, l.map (·.1)⟩ := ⟨_, _, _, l, hd, h.vO.row h.vR, h.rowP, rfl⟩
/-- One more that is open. -/
theorem Rw.opened {w w' : World} {B : Nat} {vv cv cv' : Value} {vals : List Int} {l : List CtV} {p : CtV} (h : Rw w B vv cv vals l) (hp : EndOk w B vv p) (hc : Own elP w' B cv' (l ++ [p])) (hch : Chg w w' cv.ownBlock) : Rw w' B vv cv' vals (l ++ [p]) := by
  have key : ∀ {s n : Nat} {v : Value} {xs : List Value}, w.ownsRow B 5 s v n xs → w'.ownsRow B 5 s v n xs := fun hh => own_stay hh fun k hk => hch k (World.ownsRow.lt hh k hk).2 (own_ne hh h.cO (by decide) hk)
  refine ⟨key h.vO, h.vR, hc, fun r hr => ?_⟩
  rcases List.mem_append.1 hr with hr | hr
  · exact ⟨key (h.ok r hr).1, (h.ok r hr).2⟩
  · obtain rfl := List.mem_singleton.1 hr
    exact ⟨key hp.1, hp.2⟩
theorem below_new (w : World) (o : Obj) : Below w.heap.size w (w.alloc o) := (Below.refl _ _).alloc (Nat.le_refl _) o
theorem Dr.next {w w' : World} {B D : Nat} {vv cv : Value} {vals : List Int} {l : List CtV} {o : Obj} (h : Dr w B D vv cv vals l) (hc : Chg (w.alloc o) w' cv.ownBlock) : w'.heap[D]? = some (drCells vv cv (innP cv)) := by
  have h1 := h.keep (below_new w o)
  rw [hc D h1.lt (fun e => own_notD h1.cO h1.blk (by decide) e.symm rfl)]
  exact h1.blk
theorem Dr.openedA {w w' : World} {B D : Nat} {vv cv cv' : Value} {vals : List Int} {l : List CtV} {p : CtV} {o : Obj} (h : Dr w B D vv cv vals l) (hp : EndOk w B vv p) (hc : Own elP w' B cv' (l ++ [p])) (hch : Chg (w.alloc o) w' cv.ownBlock) : Rw w' B vv cv' vals (l ++ [p]) :=
  (h.rw.keep (below_new w o)).opened (hp.keep (below_new w o)) hc hch
theorem open_any {B D : Nat} {vv cv x : Value} {op : Int} {vals xs : List Int} {l : List CtV} {w : World} (h : Dr w B D vv cv vals l) (hx : Row elB w x xs) (hop : w64 op) (hl : vals.length ≤ 1000000) (hll : l.length + 1 ≤ 1000000) (hxl : xs.length ≤ 1000000) (hBw : B ≤ w.heap.size) :
    Calls Try.prog 36 #[.pointer (some ⟨D, 0, none⟩), .int .i64 op, x] w fun e w' => MadeTold D (chosen (mayE xs) 0 1) ⟨vals, l.map (·.1) ++ [⟨op, xs, vals.length, false⟩]⟩ e w' ∧ Below B w w' := by
  have HM := Lib.hid (mayend_any hx)
  obtain ⟨P, c, rfl, hc, hm⟩ := hx.form
  cases hq : mayE xs with
  | false =>
    rw [hq] at HM
    clear h hx hl hc hm hq hop hll hxl
    go_enter Try.func36, Try.ntmps36
    go_wp2_with fail
    refine HM.out.mono ?_
    rintro e w1 ⟨rfl, rfl⟩
    go_wp2_with fail
    exact bodyPost_ret (v := .int .i64 1) (by simp [results, Try.results36, go_sem]) rfl ⟨⟨rfl, fun h => absurd h (by decide)⟩, Below.refl _ _⟩
  | true =>
    rw [hq] at HM
    have HB := Lib.hid (below_drew1 w)
    have HH0 := Lib.hid h
    have HH := Lib.hid (h.keep HB.out)
    have HC := Lib.hid (clone_any (hx.keep HB.out) hxl)
    have HXR := Lib.hid hx.2
    have hD := h.hD
    have HDs := Lib.hid h.lt
    have HVB := Lib.hid (fun k hk => (World.ownsRow.lt h.vO k hk).2)
    obtain ⟨Pv, cv_, hv⟩ := h.vO.form
    obtain ⟨Pc, cc_, hcv⟩ := h.cO.form
    obtain ⟨nx, hnx⟩ : ∃ n, xs.length = n := ⟨_, rfl⟩
    obtain ⟨m, hm2⟩ : ∃ m, vals.length = m := ⟨_, rfl⟩
    obtain ⟨n, hn⟩ : ∃ n, l.length = n := ⟨_, rfl⟩
    rw [hm2] at hv hl ⊢
    rw [hnx] at HC HM ⊢
    rw [hn] at hcv hll
    subst hv hcv
    obtain ⟨b0, b1, b2, d0, d1, d2⟩ := dr_cells h.blk
    have HNX := Lib.hid hnx
    have HN := Lib.hid hn
    have HLL := Lib.hid hll
    have HOP := Lib.hid hop
    have HL : Hid (w64 (m : Int)) := ⟨by omega, by omega⟩
    have HM0 : Hid ((0 : Int) ≤ (m : Int)) := Lib.hid (by omega)
    clear h hx hl hc hm hq hnx hm2 hn hll hop
    go_enter Try.func36, Try.ntmps36
    go_wp2_with fail
    refine HM.out.mono ?_
    rintro e w1 ⟨rfl, rfl⟩
    go_wp2_with fail
    go_region_law (first
      | (go_simp; go_at_call 41; refine (HC.out).mono ?_; rintro en w6 ⟨⟨vE, rfl, hoE⟩, hbE⟩; obtain ⟨PE, cE, hvE⟩ := hoE.form; rw [HNX.out] at hvE; subst hvE; have HOE := Lib.hid hoE; have HBE := Lib.hid hbE; have HH6 := Lib.hid (HH.out.keep hbE); have hD6 := (HH.out.keep hbE).lt; obtain ⟨r0, r1, r2, s0, s1, s2⟩ := dr_cells (HH.out.keep hbE).blk; have HB6 := Lib.hid ((HB.out.mono hBw).trans (hbE.mono (show B ≤ w1.drew.heap.size from hBw))); clear hoE hbE)
      | (refine step_oneG elP 28 Try.underlying28 _ rfl (.tmp 15) (.tmp 26) rfl B _ l (⟨op, xs, (m : Int), false⟩, .slice PE nx cE) (n + 1) ⟨(HOE.out.row HXR.out).keep (Below.alloc (Below.refl _ _) (Nat.le_refl _) _), HOP.out, HL.out⟩ (by rfl) (own_keep HH6.out.cO (Below.alloc (Below.refl _ _) (Nat.le_refl _) _)) w6.heap.size (by rfl) (newG' elP w6 _ _ _ rfl rfl) (by rw [HN.out]) HLL.out (by decide) (Nat.le_trans (show B ≤ w6.heap.size from Nat.le_trans (show B ≤ w1.drew.heap.size from hBw) HBE.out.size) (by simp)) ?_; intro g7 c7 w7 ho7 hb7 hc7; have hd7 := HH6.out.next hc7; obtain ⟨r0, r1, r2, s0, s1, s2⟩ := dr_cells hd7))
    all_goals (
      have HE : Hid (EndOk w6 B (.slice Pv m cv_) (⟨op, xs, (m : Int), false⟩, .slice PE nx cE)) :=
        ⟨own_low HOE.out (show B ≤ w1.drew.heap.size from hBw), (fun k hk e => by
          have h1 := (World.ownsRow.lt HOE.out k hk).1
          have h2 : k < w1.drew.heap.size := HVB.out k e.symm
          omega), HXR.out, HOP.out, HL.out, HM0.out⟩
      have HR7 := Lib.hid (HH6.out.openedA HE.out ho7 hc7)
      have HD7 := Lib.hid hd7
      have HB7 := Lib.hid ((HB6.out.trans ((below_new w6 _).mono (Nat.le_trans (show B ≤ w1.drew.heap.size from hBw) HBE.out.size))).trans hb7)
      have HS7 := Lib.hid (lt_of_heap hd7)
      have HH8 : Hid ((w7.setCell ⟨D, 1, none⟩ (.slice (some ⟨g7, 0, none⟩) (n + 1) c7)).heap[D]? = some (drCells (.slice Pv m cv_) (.slice (some ⟨g7, 0, none⟩) (n + 1) c7) (innP (.slice Pc n cc_)))) := by show _ = _; rw [set_heap hd7]; rfl
      have HBt := Lib.hid ((But.refl D w7).setCell 1 (.slice (some ⟨g7, 0, none⟩) (n + 1) c7))
      have HC7 : Hid (n + 1 ≤ c7) := by
        obtain ⟨_, ⟨hv, _⟩ | ⟨g', cap, cur, hv, _, _, hle, _⟩⟩ := ho7
        · cases hv
        · injection hv with _ _ e3
          subst e3
          rw [List.length_append, List.length_singleton, HN.out] at hle
          exact hle
      have HSe := Lib.hid (settle_any HH8.out (fun _ => ⟨g7, rfl⟩) HC7.out HLL.out)
      clear hd7 ho7 hb7 hc7 hD6
      go_wp2_with fail
      refine HSe.out.mono ?_
      rintro e w9 ⟨rfl, hd9, hb9⟩
      have HB9 := Lib.hid (HBt.out.trans hb9)
      have HR9 := Lib.hid (HR7.out.but HD7.out HB9.out)
      have HD9 := Lib.hid hd9
      have HBf := Lib.hid (HB7.out.trans (HB9.out.below hD HS7.out))
      clear hd9 hb9
      go_wp2_with fail
      refine bodyPost_ret (v := .int .i64 0) (by simp [results, Try.results36, go_sem]) rfl ⟨⟨rfl, fun _ => ?_⟩, HBf.out⟩
      have := HR9.out.left HD9.out
      rw [List.map_append] at this
      exact this)
end Go.Proofs.Ytlappkflnlbfcaa.Stk
