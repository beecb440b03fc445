/- The draft's changes, walked: push, pop. -/
import Derived.Test.YtlappkflnlbfcaaStkDr
namespace Go.Proofs.Ytlappkflnlbfcaa.Stk
open Go.RowKit Row9
set_option maxRecDepth 100000
set_option maxHeartbeats 2000000
set_option linter.unusedVariables false
theorem popV_some {c : Ctl} {vals : List Int} (h : c.ht < vals.length) : popV (some c) vals = some (vals.dropLast, vals.getLastD 0) := by
  show (if c.ht < vals.length then _ else _) = _
  rw [if_pos h]
theorem popV_dead {c : Ctl} {vals : List Int} (h : ¬ c.ht < vals.length) (hd : c.dead = true) : popV (some c) vals = some (vals, 0) := by
  show (if c.ht < vals.length then _ else _) = _
  rw [if_neg h, if_pos hd]
theorem popV_no {c : Ctl} {vals : List Int} (h : ¬ c.ht < vals.length) (hd : c.dead = false) : popV (some c) vals = none := by
  show (if c.ht < vals.length then _ else _) = _
  rw [if_neg h, if_neg (by rw [hd]; decide)]
/-- How pop ends: a value taken; none. -/
def PopYes (B D : Nat) (cv : Value) (l : List CtV) (vs : List Int) (v : Int) (w : World) (e : Ending) (w' : World) : Prop := ∃ vv', e = .returned (.tuple #[.int .u8 v, .int .i64 0]) ∧ Dr w' B D vv' cv vs l ∧ But D w w'
def PopNo (D : Nat) (w : World) (e : Ending) (w' : World) : Prop := e = .returned (.tuple #[.int .u8 0, .int .i64 5]) ∧ But D w w'
def PopTold (B D : Nat) (cv : Value) (l : List CtV) (o : Option (List Int × Int)) (w : World) (e : Ending) (w' : World) : Prop := match o with
  | none => PopNo D w e w'
  | some (vs, v) => PopYes B D cv l vs v w e w'
theorem last_map {l : List CtV} {p : CtV} (h : l.getLast? = some p) : (l.map (·.1)).getLast? = some p.1 := by rw [List.getLast?_map, h]; rfl
theorem pop_any {B D : Nat} {vv cv : Value} {vals : List Int} {l : List CtV} {w : World} (h : Dr w B D vv cv vals l) (hl : vals.length ≤ 1000000) :
    Calls Try.prog 32 #[.pointer (some ⟨D, 0, none⟩)] w (PopTold B D cv l (popV (l.map (·.1)).getLast? vals) w) := by
  obtain ⟨c0, c1, c2, f0, f1, f2⟩ := dr_cells h.blk
  have HH := Lib.hid h
  cases hp : l.getLast? with
  | none =>
    have h0 : l = [] := List.getLast?_eq_none_iff.1 hp
    rw [h.outer h0] at c2
    subst h0
    show Calls _ _ _ _ (PopNo D w)
    clear h
    go_enter Try.func32, Try.ntmps32
    go_wp2_with fail
    exact bodyPost_ret (v := .tuple #[.int .u8 0, .int .i64 5]) (by simp [results, Try.results32, go_sem]) rfl ⟨rfl, But.refl _ _⟩
  | some p =>
    rw [last_map hp]
    obtain ⟨g, cc_, q, m, rfl, x1, x2, x3, x4, e2, hg, hgD, k0, k1, k2, k3, kf, hE⟩ := h.inner hp
    clear x1 x2 x3 x4
    rw [e2] at c2
    obtain ⟨P, cv_, hv⟩ := h.vO.form
    obtain ⟨n, hn⟩ : ∃ n, vals.length = n := ⟨_, rfl⟩
    obtain ⟨ht, hht⟩ : ∃ ht, p.1.ht = ht := ⟨_, rfl⟩
    rw [hn] at hl hv
    subst hv
    rw [hht] at k2
    by_cases hlt : ht < n
    · have hnn : 0 ≤ ht := by rw [← hht]; exact hE.2.2.2.2.2
      obtain ⟨k, hk⟩ : ∃ k, n = k + 1 := ⟨n - 1, by omega⟩
      obtain ⟨gv, cw, hvp, hcw, hgv⟩ := own_pos h.vO (by intro e; rw [e] at hn; simp at hn; omega)
      injection hvp with e5 e6 e7
      subst e5 e7
      rw [hn] at hcw
      obtain ⟨g', off, e8, y1, hc8, y2⟩ := byte_at h.rowB (j := k) (by omega)
      simp only [Option.some.injEq, Addr.mk.injEq, and_true] at e8
      obtain ⟨rfl, rfl⟩ := e8
      clear y1 y2
      rw [Nat.zero_add] at hc8
      have hlast : vals.getLastD 0 = vals.getD k 0 := by
        rw [List.getLastD_eq_getLast?, List.getLast?_eq_getElem?, List.getD_eq_getElem?_getD, hn, hk, Nat.add_sub_cancel]
      have hdrop : vals.dropLast = vals.take k := by rw [List.dropLast_eq_take, hn, hk, Nat.add_sub_cancel]
      rw [popV_some (by rw [hht, hn]; exact hlt), hlast, hdrop]
      obtain ⟨v, hv⟩ : ∃ v, vals.getD k 0 = v := ⟨_, rfl⟩
      rw [hv] at hc8 ⊢
      show Calls _ _ _ _ (PopYes B D _ l (vals.take k) v w)
      have t1 : decide (ht < (n : Int)) = true := decide_eq_true hlt
      have e3 : IntKind.i64.wrap ((n : Int) - 1) = (k : Int) := by rw [IntWalk.i64_in _ (by omega)]; omega
      have i1 : (0 : Int) ≤ (k : Int) := by omega
      have i2 : (k : Int) < (n : Int) := by omega
      have i3 : (k : Int) ≤ (cv_ : Int) := by omega
      have i3' : k ≤ cv_ := by omega
      have HT := Lib.hid (Own.take h.vO k (by omega))
      have HR := Lib.hid (fun x (hx : x ∈ vals.take k) => h.vR x (List.mem_of_mem_take hx))
      clear h hlt hE hk hn hcw hlast hdrop hv hht hnn k0 k1 k3 e6
      go_enter Try.func32, Try.ntmps32
      go_wp2_with fail
      go_quiet (fail)
      have HB := Lib.hid (drewB w nq (Nat.le_refl w.heap.size))
      have HBt := Lib.hid ((But.refl D w).drewN nq)
      have HH2 := Lib.hid (HH.out.keep HB.out)
      have HT2 := Lib.hid (own_keep HT.out HB.out)
      obtain ⟨b0, b1, b2, d0, d1, d2⟩ := dr_cells HH2.out.blk
      have b8 : (w.drewN nq).cell? ⟨gv, k, none⟩ = some (.int .u8 v) := by rw [HB.out.cell (p := ⟨gv, k, none⟩) hgv]; exact hc8
      generalize w.drewN nq = w1 at *
      go_wp2_with fail
      exact bodyPost_ret (v := .tuple #[.int .u8 v, .int .i64 0]) (by simp [results, Try.results32, go_sem]) rfl ⟨_, rfl, HH2.out.setV HT2.out HR.out rfl, HBt.out.setCell 0 _⟩
    · have t1 : decide (ht < (n : Int)) = false := decide_eq_false hlt
      cases hdd : p.1.dead with
      | true =>
        rw [popV_dead (by rw [hht, hn]; exact hlt) hdd]
        show Calls _ _ _ _ (PopYes B D _ l vals 0 w)
        rw [hdd] at k3
        clear h hlt hE hdd
        go_enter Try.func32, Try.ntmps32
        go_wp2_with fail
        go_quiet (fail)
        go_wp2_with fail
        exact bodyPost_ret (v := .tuple #[.int .u8 0, .int .i64 0]) (by simp [results, Try.results32, go_sem]) rfl ⟨_, rfl, HH.out.keep (drewB _ _ (Nat.le_refl _)), (But.refl _ _).drewN _⟩
      | false =>
        rw [popV_no (by rw [hht, hn]; exact hlt) hdd]
        show Calls _ _ _ _ (PopNo D w)
        rw [hdd] at k3
        clear h hlt hE hdd
        go_enter Try.func32, Try.ntmps32
        go_wp2_with fail
        go_quiet (fail)
        go_wp2_with fail
        exact bodyPost_ret (v := .tuple #[.int .u8 0, .int .i64 5]) (by simp [results, Try.results32, go_sem]) rfl ⟨rfl, (But.refl _ _).drewN _⟩
end Go.Proofs.Ytlappkflnlbfcaa.Stk
