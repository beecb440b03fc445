/- BodTurnB, BodTurnC, BodTurnD, BodTakeW. -/
import Derived.Test.YtffegkjlgeblbaaGreatDoorPkBodTurn
import Derived.Deep.RegionLaw
import Derived.Deep.CutRange
section
/- The nest's turn and end, where something is open. -/
namespace Go.Proofs.YtffegkjlgeblbaaGreatDoor.Bod
open Go.RowKit Ints Typ Ins
set_option maxRecDepth 100000
set_option maxHeartbeats 2000000
set_option linter.unusedVariables false
theorem drewB' (w : World) {B : Nat} (h : B ≤ w.heap.size) : Below B w w.drew := (drewB w).mono h
theorem turn_core (g p q k kk m cm cs : Nat) (op1 e1 a : Int) (w : World) (t1 t2 : Bool) (ht1 : (op1 != 4) = t1) (ht2 : (e1 != -1) = t2)
    (c0 : w.cell? ⟨g, 0, none⟩ = some (.slice (some ⟨p, 0, none⟩) m cm)) (c2 : w.cell? ⟨g, 2, none⟩ = some (.slice (some ⟨q, 0, none⟩) (k + 1) cs))
    (b1 : w.cell? ⟨q, k * 2, none⟩ = some (.int .i64 op1)) (b2 : w.cell? ⟨q, k * 2 + 1, none⟩ = some (.int .i64 (kk : Int)))
    (m1 : w.cell? ⟨p, kk * 2, none⟩ = some (.int .i64 e1)) (fm : w.frozen? ⟨p, kk * 2, none⟩ = false) (hk : k < 1000000) (hkk : kk < m) :
    Calls Tryz.prog 267 #[.pointer (some ⟨g, 0, none⟩), .int .i64 a] w fun e w' => ∃ w1, Below w.heap.size w w1 ∧ ((t1 || t2) = true → e = .returned (.bool false) ∧ w' = w1) ∧ ((t1 || t2) = false → e = .returned (.bool true) ∧ w' = w1.setCell ⟨p, kk * 2, none⟩ (.int .i64 a)) := by
  have hw : IntKind.i64.wrap (((k + 1 : Nat) : Int) - 1) = (k : Int) := by rw [IntWalk.i64_in _ (by omega)]; omega
  have h1 : (0 : Int) ≤ (k : Int) := by omega
  have h2 : (k : Int) < ((k + 1 : Nat) : Int) := by omega
  have h3 : (0 : Int) ≤ (kk : Int) := by omega
  have h4 : (kk : Int) < (m : Int) := by omega
  have hz : (((k + 1 : Nat) : Int) == 0) = false := by simp; omega
  have hw2 : IntKind.i64.wrap (k : Int) = (k : Int) := IntWalk.i64_in _ (by omega)
  have hbz := ((Below.refl w.heap.size w).alloc (Nat.le_refl _) (.cells #[.int .i64 0, .int .i64 0] 284)).trans (drewB' _ (by simp))
  have c2d := (hbz.cell (p := ⟨g, 2, none⟩) (World.block_lt_of_cell? _ _ c2)).trans c2
  have b1d := (hbz.cell (p := ⟨q, k * 2, none⟩) (World.block_lt_of_cell? _ _ b1)).trans b1
  have b2d := (hbz.cell (p := ⟨q, k * 2 + 1, none⟩) (World.block_lt_of_cell? _ _ b2)).trans b2
  clear hbz
  go_enter Tryz.func267, Tryz.ntmps267
  go_wp2_with fail
  go_region
  have hb1 := ((Below.refl w.heap.size w).alloc (Nat.le_refl _) (.cells #[.int .i64 op1, .int .i64 (kk : Int)] 284)).trans (drewB' _ (by simp))
  have z0 : ((w.alloc (.cells #[.int .i64 op1, .int .i64 (kk : Int)] 284)).drew).cell? ⟨w.heap.size, 0, none⟩ = some (.int .i64 op1) := by simp
  have z1 : ((w.alloc (.cells #[.int .i64 op1, .int .i64 (kk : Int)] 284)).drew).cell? ⟨w.heap.size, 1, none⟩ = some (.int .i64 (kk : Int)) := by simp
  have c0 := (hb1.cell (p := ⟨g, 0, none⟩) (World.block_lt_of_cell? _ _ c0)).trans c0
  have fm := (hb1.frozen (p := ⟨p, kk * 2, none⟩) (World.block_lt_of_cell? _ _ m1)).trans fm
  have m1 := (hb1.cell (p := ⟨p, kk * 2, none⟩) (World.block_lt_of_cell? _ _ m1)).trans m1
  have HB := Lib.hid hb1
  clear hb1 c2d b1d b2d c2 b1 b2
  generalize ((w.alloc (.cells #[.int .i64 op1, .int .i64 (kk : Int)] 284)).drew) = W3 at *
  generalize w.heap.size = r at z0 z1 ⊢
  cases t1 with
  | true =>
    go_wp2_with fail
    go_quiet (fail)
    go_wp2_with fail
    refine bodyPost_ret (v := .bool false) (by simp [results, Tryz.results267, go_sem]) rfl ⟨_, HB.out.trans (drewNB _ nq HB.out.size), ?_, ?_⟩
    · exact fun _ => ⟨rfl, rfl⟩
    · intro h; simp at h
  | false =>
    cases t2 with
    | true =>
      go_wp2_with fail
      go_quiet (fail)
      go_wp2_with fail
      refine bodyPost_ret (v := .bool false) (by simp [results, Tryz.results267, go_sem]) rfl ⟨_, HB.out.trans (drewNB _ nq HB.out.size), ?_, ?_⟩
      · exact fun _ => ⟨rfl, rfl⟩
      · intro h; simp at h
    | false =>
      go_wp2_with fail
      go_quiet (fail)
      go_wp2_with fail
      have z1 : (W3.drewN nq).drew.cell? ⟨r, 1, none⟩ = some (.int .i64 (kk : Int)) := z1
      have c0 : (W3.drewN nq).drew.cell? ⟨g, 0, none⟩ = some (.slice (some ⟨p, 0, none⟩) m cm) := c0
      have m1 : (W3.drewN nq).drew.cell? ⟨p, kk * 2, none⟩ = some (.int .i64 e1) := m1
      have fm : (W3.drewN nq).drew.frozen? ⟨p, kk * 2, none⟩ = false := fm
      go_region
      go_wp2_with fail
      refine bodyPost_ret (v := .bool true) (by simp [results, Tryz.results267, go_sem]) rfl ⟨_, (HB.out.trans (drewNB _ nq HB.out.size)).trans (drewB' _ HB.out.size), ?_, ?_⟩
      · intro h; simp at h
      · exact fun _ => ⟨rfl, rfl⟩
theorem end_one (g p q k kk m cm cs : Nat) (a : Int) (w : World)
    (c0 : w.cell? ⟨g, 0, none⟩ = some (.slice (some ⟨p, 0, none⟩) m cm)) (c2 : w.cell? ⟨g, 2, none⟩ = some (.slice (some ⟨q, 0, none⟩) (k + 1) cs))
    (f2 : w.frozen? ⟨g, 2, none⟩ = false) (b2 : w.cell? ⟨q, k * 2 + 1, none⟩ = some (.int .i64 (kk : Int)))
    (x : Value) (m2 : w.cell? ⟨p, kk * 2 + 1, none⟩ = some x) (fm : w.frozen? ⟨p, kk * 2 + 1, none⟩ = false)
    (c02 : (w.setCell ⟨p, kk * 2 + 1, none⟩ (.int .i64 a)).cell? ⟨g, 0, none⟩ = some (.slice (some ⟨p, 0, none⟩) m cm)) (c22 : (w.setCell ⟨p, kk * 2 + 1, none⟩ (.int .i64 a)).cell? ⟨g, 2, none⟩ = some (.slice (some ⟨q, 0, none⟩) (k + 1) cs)) (f22 : (w.setCell ⟨p, kk * 2 + 1, none⟩ (.int .i64 a)).frozen? ⟨g, 2, none⟩ = false)
    (m1 : (w.setCell ⟨p, kk * 2 + 1, none⟩ (.int .i64 a)).cell? ⟨p, kk * 2, none⟩ = some (.int .i64 (-1)))
    (hk : k < 1000000) (hkk : kk < m) (hcs : k + 1 ≤ cs) (hcs2 : cs ≤ 9223372036854775807) :
    Calls Tryz.prog 268 #[.pointer (some ⟨g, 0, none⟩), .int .i64 a] w fun e w' => e = .returned (.bool true) ∧ w' = (w.setCell ⟨p, kk * 2 + 1, none⟩ (.int .i64 a)).setCell ⟨g, 2, none⟩ (.slice (some ⟨q, 0, none⟩) k cs) := by
  have hw : IntKind.i64.wrap (((k + 1 : Nat) : Int) - 1) = (k : Int) := by rw [IntWalk.i64_in _ (by omega)]; omega
  have h1 : (0 : Int) ≤ (k : Int) := by omega
  have h2 : (k : Int) < ((k + 1 : Nat) : Int) := by omega
  have h3 : (0 : Int) ≤ (kk : Int) := by omega
  have h4 : (kk : Int) < (m : Int) := by omega
  have h5 : (k : Int) ≤ (cs : Int) := by omega
  have hz : (((k + 1 : Nat) : Int) == 0) = false := by simp; omega
  go_enter Tryz.func268, Tryz.ntmps268
  go_wp2_with fail
  go_ret
  exact ⟨rfl, rfl⟩
theorem end_two (g p q k kk t m cm cs : Nat) (a : Int) (w : World)
    (c0 : w.cell? ⟨g, 0, none⟩ = some (.slice (some ⟨p, 0, none⟩) m cm)) (c2 : w.cell? ⟨g, 2, none⟩ = some (.slice (some ⟨q, 0, none⟩) (k + 1) cs))
    (b2 : w.cell? ⟨q, k * 2 + 1, none⟩ = some (.int .i64 (kk : Int)))
    (x : Value) (m2 : w.cell? ⟨p, kk * 2 + 1, none⟩ = some x) (fm : w.frozen? ⟨p, kk * 2 + 1, none⟩ = false)
    (c02 : (w.setCell ⟨p, kk * 2 + 1, none⟩ (.int .i64 a)).cell? ⟨g, 0, none⟩ = some (.slice (some ⟨p, 0, none⟩) m cm))
    (m1 : (w.setCell ⟨p, kk * 2 + 1, none⟩ (.int .i64 a)).cell? ⟨p, kk * 2, none⟩ = some (.int .i64 (t : Int)))
    (y : Value) (m3 : (w.setCell ⟨p, kk * 2 + 1, none⟩ (.int .i64 a)).cell? ⟨p, t * 2 + 1, none⟩ = some y) (fm3 : (w.setCell ⟨p, kk * 2 + 1, none⟩ (.int .i64 a)).frozen? ⟨p, t * 2 + 1, none⟩ = false)
    (c23 : ((w.setCell ⟨p, kk * 2 + 1, none⟩ (.int .i64 a)).setCell ⟨p, t * 2 + 1, none⟩ (.int .i64 a)).cell? ⟨g, 2, none⟩ = some (.slice (some ⟨q, 0, none⟩) (k + 1) cs)) (f23 : ((w.setCell ⟨p, kk * 2 + 1, none⟩ (.int .i64 a)).setCell ⟨p, t * 2 + 1, none⟩ (.int .i64 a)).frozen? ⟨g, 2, none⟩ = false)
    (hk : k < 1000000) (hkk : kk < m) (htm : t < m) (hcs : k + 1 ≤ cs) (hcs2 : cs ≤ 9223372036854775807) :
    Calls Tryz.prog 268 #[.pointer (some ⟨g, 0, none⟩), .int .i64 a] w fun e w' => e = .returned (.bool true) ∧ w' = ((w.setCell ⟨p, kk * 2 + 1, none⟩ (.int .i64 a)).setCell ⟨p, t * 2 + 1, none⟩ (.int .i64 a)).setCell ⟨g, 2, none⟩ (.slice (some ⟨q, 0, none⟩) k cs) := by
  have hw : IntKind.i64.wrap (((k + 1 : Nat) : Int) - 1) = (k : Int) := by rw [IntWalk.i64_in _ (by omega)]; omega
  have h1 : (0 : Int) ≤ (k : Int) := by omega
  have h2 : (k : Int) < ((k + 1 : Nat) : Int) := by omega
  have h3 : (0 : Int) ≤ (kk : Int) := by omega
  have h4 : (kk : Int) < (m : Int) := by omega
  have h5 : (k : Int) ≤ (cs : Int) := by omega
  have h6 : (0 : Int) ≤ (t : Int) := by omega
  have h7 : (t : Int) < (m : Int) := by omega
  have hz : (((k + 1 : Nat) : Int) == 0) = false := by simp; omega
  have hn : ((t : Int) != -1) = true := by simp
  go_enter Tryz.func268, Tryz.ntmps268
  go_wp2_with fail
  go_ret
  exact ⟨rfl, rfl⟩
end Go.Proofs.YtffegkjlgeblbaaGreatDoor.Bod
end

section
/- The nest's turn and end: what they leave. -/
namespace Go.Proofs.YtffegkjlgeblbaaGreatDoor.Bod
open Go.RowKit Ints Typ Ins
set_option maxRecDepth 100000
set_option maxHeartbeats 2000000
set_option linter.unusedVariables false
def NTold (B g : Nat) (vD : Value) (r : Option Nst) (w : World) (e : Ending) (w' : World) : Prop := ∃ vM' vD' vS' n1, e = .returned (.bool r.isSome) ∧ (∀ m, r = some m → n1 = m) ∧ NAt w' B g vM' vD' vS' n1 ∧ NFr w vD vD' w' ∧ Below B w w'
theorem prs_top {S0 : List (Int × Nat)} {x : Int × Nat} : (prs (S0 ++ [x])).getD S0.length (0, 0) = (x.1, (x.2 : Int)) := by
  have : prs (S0 ++ [x]) = prs S0 ++ [(x.1, (x.2 : Int))] := by simp [prs]
  rw [this, ← prs_len S0]
  exact getD_app2
theorem NAt.top {w : World} {B g : Nat} {vM vD vS : Value} {n : Nst} (h : NAt w B g vM vD vS n) {S0 : List (Int × Nat)} {x : Int × Nat} (hS : n.S = S0 ++ [x]) : ∃ q c, vS = .slice (some ⟨q, 0, none⟩) (S0.length + 1) c ∧ S0.length + 1 ≤ c ∧ c ≤ 9223372036854775807 ∧ w.cell? ⟨q, S0.length * 2, none⟩ = some (.int .i64 x.1) ∧ w.cell? ⟨q, S0.length * 2 + 1, none⟩ = some (.int .i64 (x.2 : Int)) := by
  have hs := h.s
  rw [hS] at hs
  have hl : (prs (S0 ++ [x])).length = S0.length + 1 := by simp [prs]
  obtain ⟨q, c, rfl, hc⟩ := OwnP.shape hs (j := S0.length) (by omega)
  have hmx : c ≤ 9223372036854775807 := by
    obtain ⟨_, ⟨hv, _⟩ | ⟨g', cap, cur, hv, _, _, _, hm, _⟩⟩ := hs
    · cases hv
    · injection hv with e1 e2 e3
      subst e3
      unfold maxLen at hm
      omega
  have hcl := OwnP.cells hs (j := S0.length) (by omega)
  rw [prs_top] at hcl
  rw [hl] at hc ⊢
  exact ⟨q, c, rfl, hc, hmx, hcl.1, hcl.2⟩
theorem NAt.mat {w : World} {B g : Nat} {vM vD vS : Value} {n : Nst} (h : NAt w B g vM vD vS n) {k : Nat} (hk : k < n.M.length) : ∃ p c, vM = .slice (some ⟨p, 0, none⟩) n.M.length c := by
  obtain ⟨p, c, e, _⟩ := OwnP.shape h.m hk
  exact ⟨p, c, e⟩
theorem NAt.no {w : World} {B g : Nat} {vM vD vS : Value} {n : Nst} (h : NAt w B g vM vD vS n) : NTold B g vD none w (.returned (.bool false)) w := ⟨vM, vD, vS, n, rfl, (fun m hm => by cases hm), h, NFr.refl _ _, Below.refl _ _⟩
theorem last_split {α : Type} {l : List α} {x : α} (h : l.getLast? = some x) : l = l.dropLast ++ [x] := by
  obtain ⟨hne, e⟩ := List.getLast?_eq_some_iff.1 h
  rw [e]
  simp
theorem pturn_any (a : Nat) {w : World} {B g : Nat} {vM vD vS : Value} {n : Nst} (h : NAt w B g vM vD vS n) (hok : NOk n) (hl : n.S.length ≤ 100000) :
    Calls Tryz.prog 267 #[.pointer (some ⟨g, 0, none⟩), .int .i64 (a : Int)] w (NTold B g vD (tkTurn a n) w) := by
  cases hx : n.S.getLast? with
  | none =>
    have e : n.S = [] := List.getLast?_eq_none_iff.1 hx
    obtain ⟨P, c, hv⟩ := h.stk
    have c2 := h.cells.2.2.1
    rw [hv, e] at c2
    have et : tkTurn a n = none := by unfold tkTurn; rw [hx]
    rw [et]
    refine (turn_none a g P c w c2).mono ?_
    rintro en w' ⟨rfl, rfl⟩
    exact h.no
  | some x =>
    have hS := last_split hx
    have hkk := hok.stk x (last_mem hx)
    obtain ⟨q, cs, hvS, _, _, b1, b2⟩ := h.top hS
    obtain ⟨p, cm, hvM⟩ := h.mat hkk
    have C := h.cells
    have hm := h.m
    rw [hvM] at hm
    have hc := OwnP.cells hm hkk
    have hl2 : n.S.dropLast.length < 1000000 := by rw [List.length_dropLast]; omega
    have et : tkTurn a n = if x.1 ≠ 4 ∨ (n.M.getD x.2 (0, 0)).1 ≠ -1 then none else some ⟨n.M.set x.2 ((a : Int), (n.M.getD x.2 (0, 0)).2), n.D, n.S⟩ := by unfold tkTurn; rw [hx]
    refine (turn_core g p q n.S.dropLast.length x.2 n.M.length cm cs x.1 (n.M.getD x.2 (0, 0)).1 a w _ _ rfl rfl (by rw [← hvM]; exact C.1) (by rw [← hvS]; exact C.2.2.1) b1 b2 hc.1 (OwnP.free hm _) hl2 hkk).mono ?_
    rintro en w' ⟨w1, hb, h1, h2⟩
    cases ht : ((x.1 != 4) || ((n.M.getD x.2 (0, 0)).1 != -1)) with
    | true =>
      obtain ⟨rfl, rfl⟩ := h1 ht
      rw [et, if_pos (by simpa using ht)]
      have hBl : B ≤ w.heap.size := Nat.le_trans h.base (Nat.le_of_lt h.lt)
      exact ⟨vM, vD, vS, n, rfl, (fun m hm => by cases hm), h.keep hb, NFr.below _ hb, hb.mono hBl⟩
    | false =>
      obtain ⟨rfl, rfl⟩ := h2 ht
      rw [et, if_neg (by simpa using ht)]
      have hBl : B ≤ w.heap.size := Nat.le_trans h.base (Nat.le_of_lt h.lt)
      have hk := h.keep hb
      subst hvM
      have ho := OwnP.set1 hk.m hkk (a : Int)
      obtain ⟨N1, F1, B1⟩ := hk.setM _ _ ho
      exact ⟨_, vD, vS, _, rfl, fun m hm => Option.some.inj hm, N1, (NFr.below _ hb).trans F1, (hb.mono hBl).trans B1⟩
end Go.Proofs.YtffegkjlgeblbaaGreatDoor.Bod
end

section
/- The nest's end: what it leaves. -/
namespace Go.Proofs.YtffegkjlgeblbaaGreatDoor.Bod
open Go.RowKit Ints Typ Ins
set_option maxRecDepth 100000
set_option maxHeartbeats 2000000
set_option linter.unusedVariables false
theorem own_last {W : World} {B q k cs : Nat} {S S0 : List (Int × Nat)} {x : Int × Nat} (h : OwnP 284 W B (.slice (some ⟨q, 0, none⟩) (k + 1) cs) (prs S)) (hS : S = S0 ++ [x]) (hk : k = S0.length) : OwnP 284 W B (.slice (some ⟨q, 0, none⟩) k cs) (prs S0) := by
  subst hS hk
  have e2 : prs (S0 ++ [x]) = prs S0 ++ [(x.1, (x.2 : Int))] := by simp [prs]
  have e3 : (prs S0 ++ [(x.1, (x.2 : Int))]).length = S0.length + 1 := by simp [prs]
  rw [e2, ← e3] at h
  have hp := OwnP.pop h
  rw [prs_len] at hp
  exact hp
theorem pend_any (a : Nat) {w : World} {B g : Nat} {vM vD vS : Value} {n : Nst} (h : NAt w B g vM vD vS n) (hok : NOk n) (hl : n.S.length ≤ 100000) :
    Calls Tryz.prog 268 #[.pointer (some ⟨g, 0, none⟩), .int .i64 (a : Int)] w (NTold B g vD (tkEnd a n) w) := by
  cases hx : n.S.getLast? with
  | none =>
    have e : n.S = [] := List.getLast?_eq_none_iff.1 hx
    obtain ⟨P, c, hv⟩ := h.stk
    have c2 := h.cells.2.2.1
    rw [hv, e] at c2
    have et : tkEnd a n = none := by unfold tkEnd; rw [hx]
    rw [et]
    refine (end_none a g P c w c2).mono ?_
    rintro en w' ⟨rfl, rfl⟩
    exact h.no
  | some x =>
    have hS := last_split hx
    have hkk := hok.stk x (last_mem hx)
    obtain ⟨q, cs, hvS, hcs, hcs2, b1, b2⟩ := h.top hS
    obtain ⟨p, cm, hvM⟩ := h.mat hkk
    subst hvM hvS
    have C := h.cells
    have hc := OwnP.cells h.m hkk
    have hl2 : n.S.dropLast.length < 1000000 := by rw [List.length_dropLast]; omega
    have et : tkEnd a n = some ⟨endM a x.2 n.M, n.D, n.S.dropLast⟩ := by unfold tkEnd; rw [hx]
    obtain ⟨N1, F1, B1⟩ := h.setM _ _ (OwnP.set2 h.m hkk (a : Int))
    have C1 := N1.cells
    have hkk1 : x.2 < (n.M.set x.2 ((n.M.getD x.2 (0, 0)).1, (a : Int))).length := by rw [List.length_set]; exact hkk
    have hc1 := (OwnP.cells N1.m hkk1).1
    have e1 : ((n.M.set x.2 ((n.M.getD x.2 (0, 0)).1, (a : Int))).getD x.2 (0, 0)).1 = (n.M.getD x.2 (0, 0)).1 := by
      rw [getD_setI, if_pos ⟨rfl, hkk⟩]
    simp only at hc1
    rw [e1] at hc1
    have hpop : ∀ {W : World} {vM' vD' : Value} {n' : Nst}, NAt W B g vM' vD' (.slice (some ⟨q, 0, none⟩) (n.S.dropLast.length + 1) cs) n' → n'.S = n.S → OwnP 284 W B (.slice (some ⟨q, 0, none⟩) n.S.dropLast.length cs) (prs n.S.dropLast) := fun {W vM' vD' n'} hN hSS => by
      exact own_last (hSS ▸ hN.s) hS rfl
    by_cases hne : (n.M.getD x.2 (0, 0)).1 = -1
    · rw [hne] at hc1
      refine (end_one g p q n.S.dropLast.length x.2 n.M.length cm cs a w C.1 C.2.2.1 C.2.2.2.2.2 b2 _ hc.2 (OwnP.free h.m _) C1.1 C1.2.2.1 C1.2.2.2.2.2 hc1 hl2 hkk hcs hcs2).mono ?_
      rintro en w' ⟨rfl, rfl⟩
      obtain ⟨N2, F2, B2, _, _⟩ := N1.setS (hpop N1 rfl) (Below.refl _ _) (fun _ _ _ => rfl)
      refine ⟨_, vD, _, _, by rw [et]; rfl, fun m hm => ?_, N2, F1.trans F2, B1.trans B2⟩
      rw [et] at hm
      rw [← Option.some.inj hm]
      unfold endM
      rw [if_pos hne]
    · obtain ⟨t, ht⟩ : ∃ t : Nat, (n.M.getD x.2 (0, 0)).1 = (t : Int) := by
        rcases hok.fst _ (getD_mem (0, 0) hkk) with e | e
        · exact absurd e hne
        · exact ⟨(n.M.getD x.2 (0, 0)).1.toNat, by omega⟩
      have htm : t < n.M.length := by
        rcases hok.fst _ (getD_mem (0, 0) hkk) with e | e
        · exact absurd e hne
        · omega
      have htm1 : t < (n.M.set x.2 ((n.M.getD x.2 (0, 0)).1, (a : Int))).length := by rw [List.length_set]; exact htm
      have hct := (OwnP.cells N1.m htm1).2
      have hlen1 : (n.M.set x.2 ((n.M.getD x.2 (0, 0)).1, (a : Int))).length = n.M.length := List.length_set
      have hm1 := N1.m
      simp only at hm1
      have ho2 : OwnP 282 ((w.setCell ⟨p, x.2 * 2 + 1, none⟩ (.int .i64 a)).setCell ⟨p, t * 2 + 1, none⟩ (.int .i64 a)) B (.slice (some ⟨p, 0, none⟩) n.M.length cm) ((n.M.set x.2 ((n.M.getD x.2 (0, 0)).1, (a : Int))).set t (((n.M.set x.2 ((n.M.getD x.2 (0, 0)).1, (a : Int))).getD t (0, 0)).1, (a : Int))) := by
        have h3 := hm1
        rw [← hlen1] at h3 ⊢
        exact OwnP.set2 h3 htm1 (a : Int)
      obtain ⟨N2, F2, B2⟩ := N1.setM _ _ ho2
      have C2 := N2.cells
      rw [ht] at hc1
      have hfm : (w.setCell ⟨p, x.2 * 2 + 1, none⟩ (.int .i64 a)).frozen? ⟨p, t * 2 + 1, none⟩ = false := by
        have h3 := hm1
        rw [← hlen1] at h3
        exact OwnP.free h3 _
      refine (end_two g p q n.S.dropLast.length x.2 t n.M.length cm cs a w C.1 C.2.2.1 b2 _ hc.2 (OwnP.free h.m _) C1.1 hc1 _ hct hfm C2.2.2.1 C2.2.2.2.2.2 hl2 hkk htm hcs hcs2).mono ?_
      rintro en w' ⟨rfl, rfl⟩
      obtain ⟨N3, F3, B3, _, _⟩ := N2.setS (hpop N2 rfl) (Below.refl _ _) (fun _ _ _ => rfl)
      refine ⟨_, vD, _, _, by rw [et]; rfl, fun m hm => ?_, N3, (F1.trans F2).trans F3, (B1.trans B2).trans B3⟩
      rw [et] at hm
      rw [← Option.some.inj hm]
      unfold endM
      rw [if_neg hne, ht, Int.toNat_natCast]
end Go.Proofs.YtffegkjlgeblbaaGreatDoor.Bod
end

section
/- The nest's take, walked. -/
namespace Go.Proofs.YtffegkjlgeblbaaGreatDoor.Bod
open Go.RowKit Ints Typ Ins
set_option maxRecDepth 100000
set_option maxHeartbeats 2000000
set_option linter.unusedVariables false
theorem kd_opn (op : Int) : (kd op == 2) = opn op := by
  rw [Bool.eq_iff_iff]
  unfold kd opn
  simp only [beq_iff_eq, Bool.and_eq_true, decide_eq_true_eq]
  constructor
  · intro h
    by_cases h1 : 2 ≤ op ∧ op ≤ 4
    · exact h1
    · rw [if_neg h1] at h
      exfalso
      repeat (first | (rw [if_pos (by assumption)] at h; omega) | omega | (split at h))
  · intro h
    rw [if_pos h]
theorem step_J {ops : Array Oper} {o : Oper} {a : Act} {K : Act → World → Prop} {Q : Exit → Act → World → Prop} {E : Prop} (w : World) (hgd : o.guard = none) (s x : Operand)
    (ho : o.op = .call { callee := .builtin .append, args := #[s, x], argTypes := #[26, 26] }) (B : Nat) (v : Value) (done : List Int) (y : Int) (hs : a.eval s = v) (hown : OwnI w B v done)
    (hx : a.eval x = .slice (some ⟨w.heap.size, 0, none⟩) 1 1) (hlen : done.length ≤ 10000000) (hB : B ≤ w.heap.size)
    (h : ∀ v' w', OwnI w' B v' (done ++ [y]) → Below B w w' → Chg w w' v.ownBlock → (v'.ownBlock = v.ownBlock ∨ ∃ g, v'.ownBlock = some g ∧ w.heap.size ≤ g) → K (a.put o.dst v') w') : if Region.wanted o (yielded ops a.tmps) = true then Oper.wp Tryz.prog o a (w.alloc (.cells #[.int .i64 y] 3)) K Q else E := by
  have hw : Region.wanted o (yielded ops a.tmps) = true := by simp [Region.wanted, hgd]
  rw [if_pos hw]
  obtain ⟨v', w', hr, h1, hg, h3⟩ := run_oneI (w.alloc (.cells #[.int .i64 y] 3)) o.type B v done y (World.ownsRow.alloc hown _) ⟨w.heap.size, 0, none⟩ (by rw [Typ.add_plain]; simp) hlen (by simp; omega)
  unfold Oper.wp
  simp only [execOp, ho, resolve, invoke, builtin, Sem.run_bind, Sem.run_pure, Result.andThen_ok, List.map_toArray, List.map_cons, List.map_nil, hs, hx, hr]
  refine h v' w' h1 (((Below.refl _ _).alloc hB _).grown hg (by simp; omega) (fun k hk => (World.ownsRow.lt hown k hk).1)) (fun k hk hne => (hg.block k (by simp; omega) hne).trans (((Below.refl w.heap.size w).alloc (Nat.le_refl _) _).block k hk)) ?_
  rcases h3 with h3 | ⟨g, h3, h4⟩
  · exact .inl h3
  · exact .inr ⟨g, h3, by simp at h4; omega⟩
theorem ptake_any (op : Int) {w0 w : World} {g : Nat} {vM vD vS : Value} {n : Nst} (hT : KTab w0) (hb : Below w0.heap.size w0 w) (h : NAt w w0.heap.size g vM vD vS n) (hok : NOk n) (hl : n.M.length ≤ 100000) (hs : n.S.length ≤ 90000) :
    Calls Tryz.prog 245 #[.pointer (some ⟨g, 0, none⟩), .int .i64 op] w (NTold w0.heap.size g vD (tk op n) w) := by
  have H := Lib.hid h
  have HT := Lib.hid hT
  have HB0 := Lib.hid hb
  have HOK := Lib.hid hok
  have HS := Lib.hid hs
  obtain ⟨m, hm⟩ : ∃ m, n.M.length = m := ⟨_, rfl⟩
  have HML := Lib.hid hm
  obtain ⟨PM, cM, hv⟩ := OwnP.form h.m
  rw [hm] at hv hl
  have HL := Lib.hid hl
  subst hv
  obtain ⟨kD, hkD⟩ : ∃ k, n.D.length = k := ⟨_, rfl⟩
  have HDL := Lib.hid (show kD = m from by rw [← hkD, ← hm]; exact hok.len)
  obtain ⟨PD, cD, hvD⟩ := OwnI.form h.d
  rw [hkD] at hvD
  have HKD := Lib.hid hkD
  clear hkD
  subst hvD
  have HM := Lib.hid h.m
  obtain ⟨c0, c1, c2, f0, f1, f2⟩ := h.cells
  clear hT hb h hok hs hm hl c1 c2 f1 f2
  go_enter Tryz.func245, Tryz.ntmps245
  go_wp2_with (at_builtin; refine wp_oneP 282 255 Tryz.underlying255 pmatch_info w rfl (.tmp 15) (.tmp 17) rfl w0.heap.size _ n.M (-1, -1) rfl HM.out rfl (by have := HL.out; have := HML.out; omega) HB0.out.size ?_; intro v1 w1 ho1 hb1 hc1; obtain ⟨P1, d1, hv1⟩ := OwnP.form ho1; rw [show (n.M ++ [((-1 : Int), (-1 : Int))]).length = m + 1 from by simp [HML.out]] at hv1; subst hv1; obtain ⟨N1, F1, B1, cc1, ff1⟩ := H.out.pushM ho1 hb1 hc1; have HN1 := Lib.hid N1; have HF1 := Lib.hid F1; have HB1 := Lib.hid B1; clear N1 F1 B1 ho1 hb1 hc1 c0 f0)
  generalize (w1.setCell ⟨g, 0, none⟩ (.slice P1 (m + 1) d1)) = w2 at *
  go_cut [] from 11 to 32 (fun wx => ∃ vD', NAt wx w0.heap.size g (.slice P1 (m + 1) d1) vD' vS (tk1 op n) ∧ NFr w (.slice PD kD cD) vD' wx ∧ Below w0.heap.size w wx)
  case first =>
    have HN2 := Lib.hid (HN1.out.keep (drewB w2))
    have HF2 := Lib.hid (HF1.out.trans (NFr.below (.slice PD kD cD) (drewB w2)))
    have HB2 := Lib.hid (HB1.out.trans (drewB' w2 (Nat.le_trans HN1.out.base (Nat.le_of_lt HN1.out.lt))))
    obtain ⟨x0, x1, x2, y0, y1, y2⟩ := HN2.out.cells
    clear x0 x2 y0 y2
    have x1A : (w2.alloc (.cells #[.int .i64 (depO op ⟨n.M ++ [(-1, -1)], n.D, n.S⟩)] 3)).cell? ⟨g, 1, none⟩ = some (.slice PD kD cD) := Lib.cell?_alloc_some _ (show w2.cell? ⟨g, 1, none⟩ = _ from x1)
    go_region_law (first | (go_simp; go_at_call 265; refine (pdepth_any op HN2.out (by have := HS.out; simp only; omega)).mono ?_; rintro en w6 ⟨rfl, rfl⟩) | (refine step_J w2.drew rfl (.tmp 25) (.tmp 29) rfl w0.heap.size _ n.D (depO op n) (by rfl) HN2.out.d (by rfl) (by have := HL.out; have := HDL.out; have := HKD.out; omega) (Nat.le_trans HN1.out.base (Nat.le_of_lt HN1.out.lt)) ?_; intro v4 w4 ho4 hb4 hc4 hn4; obtain ⟨P4, d4, hv4⟩ := OwnI.form ho4; rw [show (n.D ++ [depO op n]).length = kD + 1 from by simp [HKD.out]] at hv4; subst hv4; obtain ⟨N4, F4, B4, cc4, ff4⟩ := HN2.out.pushD ho4 hb4 hc4 hn4; have HN4 := Lib.hid N4; have HF4 := Lib.hid F4; have HB4 := Lib.hid B4; clear N4 F4 B4 ho4 hb4 hc4 hn4))
    all_goals (
      go_wp2_with fail
      go_meet
      case rel => exact ⟨_, HN4.out, HF2.out.trans HF4.out, HB2.out.trans HB4.out⟩)
  case rest =>
    obtain ⟨vD', hN, hF, hB⟩ := hcut
    have HN := Lib.hid hN
    have HF := Lib.hid hF
    have HB := Lib.hid hB
    have HKW := Lib.hid (HT.out.keep (HB0.out.trans hB))
    have HOK1 := Lib.hid (HOK.out.one op)
    have HS1 : Hid ((tk1 op n).S.length ≤ 100000) := by have := HS.out; show n.S.length ≤ 100000; omega
    have HLL : Hid (w0.heap.size ≤ wc.heap.size) := Nat.le_trans hN.base (Nat.le_of_lt hN.lt)
    clear hN hF hB
    go_wp2_with fail
    refine (kind_any op wc HKW.out).mono ?_
    rintro e w' ⟨rfl, rfl⟩
    have hkd := kd_opn op
    cases ho : opn op with
    | true =>
      rw [ho] at hkd
      have HTK : Hid (tk op n = some ⟨(tk1 op n).M, (tk1 op n).D, n.S ++ [(op, n.M.length)]⟩) := by
        show _ = _
        unfold tk
        rw [if_pos ho]
      obtain ⟨PS, cS, hvS⟩ := HN.out.stk
      obtain ⟨kS, hkS⟩ : ∃ k, (tk1 op n).S.length = k := ⟨_, rfl⟩
      rw [hkS] at hvS
      have HKS := Lib.hid hkS
      clear hkS ho
      subst hvS
      obtain ⟨x0, x1, x2, y0, y1, y2⟩ := HN.out.cells
      clear x0 x1 y0 y1
      go_wp2_with (at_builtin; refine wp_oneP 284 256 Tryz.underlying256 pbegun_info wc rfl (.tmp 41) (.tmp 45) rfl w0.heap.size _ (prs (tk1 op n).S) (op, (m : Int)) rfl HN.out.s rfl (by have := HS1.out; rw [prs_len]; omega) HLL.out ?_; intro v5 w5 ho5 hb5 hc5; obtain ⟨P5, d5, hv5⟩ := OwnP.form ho5; rw [show (prs (tk1 op n).S ++ [(op, (m : Int))]).length = kS + 1 from by rw [List.length_append, prs_len, HKS.out]; rfl] at hv5; subst hv5; rw [show prs (tk1 op n).S ++ [(op, (m : Int))] = prs (n.S ++ [(op, n.M.length)]) from by rw [HML.out]; simp [prs, tk1]] at ho5; obtain ⟨N5, F5, B5, cc5, ff5⟩ := HN.out.setS ho5 hb5 hc5; have HN5 := Lib.hid N5; have HF5 := Lib.hid F5; have HB5 := Lib.hid B5; clear N5 F5 B5 ho5 hb5 hc5)
      refine bodyPost_ret (v := .bool true) (by simp [results, Tryz.results245, go_sem]) rfl ⟨_, _, _, _, by rw [HTK.out]; rfl, fun m hm => ?_, HN5.out, HF.out.trans HF5.out, HB.out.trans HB5.out⟩
      rw [HTK.out] at hm
      exact Option.some.inj hm
    | false =>
      rw [ho] at hkd
      have hno : ¬ opn op = true := by rw [ho]; decide
      cases h5 : (op == 5) with
      | true =>
        have e5 : op = 5 := by simpa using h5
        have HTK : Hid (tk op n = tkTurn m (tk1 op n)) := by
          show _ = _
          unfold tk
          rw [if_neg hno, if_pos e5, HML.out]
        clear ho hno e5
        go_wp2_with fail
        refine (pturn_any m HN.out HOK1.out HS1.out).mono ?_
        rintro e w' ⟨vM5, vD5, vS5, n5, rfl, hr5, N5, F5, B5⟩
        go_wp2_with fail
        exact bodyPost_ret (v := .bool (tkTurn m (tk1 op n)).isSome) (by simp [results, Tryz.results245, go_sem]) rfl ⟨_, _, _, _, by rw [HTK.out], (by rw [HTK.out]; exact hr5), N5, HF.out.trans F5, HB.out.trans B5⟩
      | false =>
        have e5 : op ≠ 5 := by simpa using h5
        cases h11 : (op == 11) with
        | true =>
          have e11 : op = 11 := by simpa using h11
          have HTK : Hid (tk op n = tkEnd m (tk1 op n)) := by
            show _ = _
            unfold tk
            rw [if_neg hno, if_neg e5, if_pos e11, HML.out]
          clear ho hno e5 e11
          go_wp2_with fail
          refine (pend_any m HN.out HOK1.out HS1.out).mono ?_
          rintro e w' ⟨vM5, vD5, vS5, n5, rfl, hr5, N5, F5, B5⟩
          go_wp2_with fail
          exact bodyPost_ret (v := .bool (tkEnd m (tk1 op n)).isSome) (by simp [results, Tryz.results245, go_sem]) rfl ⟨_, _, _, _, by rw [HTK.out], (by rw [HTK.out]; exact hr5), N5, HF.out.trans F5, HB.out.trans B5⟩
        | false =>
          have e11 : op ≠ 11 := by simpa using h11
          have HTK : Hid (tk op n = some (tk1 op n)) := by
            show _ = _
            unfold tk
            rw [if_neg hno, if_neg e5, if_neg e11]
          clear ho hno e5 e11
          go_wp2_with fail
          exact bodyPost_ret (v := .bool true) (by simp [results, Tryz.results245, go_sem]) rfl ⟨_, _, _, _, by rw [HTK.out]; rfl, (by rw [HTK.out]; exact fun m hm => Option.some.inj hm), HN.out, HF.out, HB.out⟩
end Go.Proofs.YtffegkjlgeblbaaGreatDoor.Bod
end
