/- ChkFst, ChkLawM, ChkEnvL, ChkEnvC. -/
import Derived.Test.YtlappkflnlbfcaaGreatDoorPkChkLeafZ
import Derived.Test.YtlappkflnlbfcaaGreatDoorPkChkPlain
import Derived.Test.YtlappkflnlbfcaaGreatDoorPkChkStepP
import Derived.Test.YtlappkflnlbfcaaGreatDoorPkBodFew
import Derived.Test.YtlappkflnlbfcaaGreatDoorPkChkPrim
import Derived.Test.YtlappkflnlbfcaaGreatDoorPkStkFrame
import Derived.Deep.RegionLaw
section
/- The outermost block stays what it is: plain. -/
namespace Go.Proofs.YtlappkflnlbfcaaGreatDoor.Chk
open Go.RowKit Row9 Stk
set_option maxRecDepth 100000
set_option maxHeartbeats 1000000
set_option linter.unusedVariables false
def FsR (l : List Int) (x : Rs) : Prop := ∀ s, x = .ok s → Fst l s
theorem FsR.of {l : List Int} {x : Rs} {f : Stk → Stk × Int} (h : FsR l x) (hf : ∀ t, Fst l t → (f t).2 = 0 → Fst l (f t).1) : FsR l (x.bind fun s => ofP (f s)) := fun s hs => by
  obtain ⟨t, rfl, h2⟩ := bind_ok hs
  obtain ⟨h3, rfl⟩ := ofP_ok h2
  exact hf t (h t rfl) h3
theorem Fst.same {l : List Int} {s t : Stk} (h : Fst l s) (e : t.cs = s.cs) : Fst l t := by
  unfold Fst
  rw [e]
  exact h
theorem FsR.push {l : List Int} {x : Rs} {m : List Int} (h : FsR l x) : FsR l (pushR m x) := h.of (f := fun s => pushS s m) fun t ht h0 => by
  simp only [pushS] at h0 ⊢
  split at h0
  · exact absurd h0 (by decide)
  · rename_i h1
    rw [if_neg h1]
    split at h0
    · exact absurd h0 (by decide)
    · rename_i h2
      rw [if_neg h2]
      exact ht.same rfl
theorem FsR.want {l : List Int} {x : Rs} {m : List Int} (h : FsR l x) : FsR l (wantR m x) := h.of (f := fun s => wantS s m) fun t ht h0 => by
  simp only [wantS] at h0 ⊢
  split at h0
  · exact absurd h0 (by decide)
  · rename_i h1
    rw [if_neg h1]
    cases hw : wantV t.cs.getLast? t.vals m.reverse with
    | none => rw [hw] at h0; exact absurd (show (5 : Int) = 0 from h0) (by decide)
    | some vs => exact ht.same rfl
theorem FsR.pop {l : List Int} {x : Rs} (h : FsR l x) : FsR l (popR x) := h.of (f := fun s => ((popS s).1, (popS s).2.2)) fun t ht h0 => by
  simp only [popS] at h0 ⊢
  split at h0
  · exact absurd h0 (by decide)
  · rename_i h1
    rw [if_neg h1]
    cases hw : popV t.cs.getLast? t.vals with
    | none => rw [hw] at h0; exact absurd (show (5 : Int) = 0 from h0) (by decide)
    | some p => exact ht.same rfl
theorem FsR.open {l : List Int} {x : Rs} {op : Int} {m : List Int} (h : FsR l x) : FsR l (openR op m x) := h.of (f := fun s => openS s op m) fun t ht h0 => by
  simp only [openS] at h0 ⊢
  split at h0
  · exact absurd h0 (by decide)
  · rename_i h1
    rw [if_neg h1]
    split at h0
    · exact absurd h0 (by decide)
    · rename_i h2
      rw [if_neg h2]
      obtain ⟨d, hd⟩ := ht
      exact ⟨d, by simp only [List.head?_append, hd, Option.some_or]⟩
theorem FsR.kill {l : List Int} {x : Rs} (h : FsR l x) : FsR l (killR x) := h.of (f := fun s => killS s) fun t ht h0 => by
  simp only [killS] at h0 ⊢
  split at h0
  · exact absurd h0 (by decide)
  · rename_i h1
    rw [if_neg h1]
    obtain ⟨d, hd⟩ := ht
    rcases last_cases t.cs with hc | ⟨q, c, hc⟩
    · rw [hc] at hd; cases hd
    · have hg : t.cs.getLast? = some c := by rw [hc]; simp
      rw [hg]
      simp only
      rw [hc] at hd
      unfold Fst
      simp only [hc, List.dropLast_concat]
      cases q with
      | nil =>
        simp only [List.nil_append, List.head?_cons, Option.some.injEq] at hd
        subst hd
        exact ⟨true, rfl⟩
      | cons y q =>
        simp only [List.cons_append, List.head?_cons, Option.some.injEq] at hd
        subst hd
        exact ⟨d, rfl⟩
theorem close_fst {l : List Int} {t : Stk} (ht : Fst l t) (h2 : 2 ≤ t.cs.length) (h0 : (closeS t).2.2 = 0) : Fst l (closeS t).1 := by
  simp only [closeS] at h0 ⊢
  split at h0
  · exact absurd h0 (by decide)
  · rename_i h1
    rw [if_neg h1]
    rcases last_cases t.cs with hc | ⟨q, c, hc⟩
    · rw [hc] at h2; simp at h2
    · have hg : t.cs.getLast? = some c := by rw [hc]; simp
      rw [hg] at h0 ⊢
      simp only at h0 ⊢
      cases hw : wantV (some c) t.vals c.fin.reverse with
      | none => rw [hw] at h0; exact absurd (show (5 : Int) = 0 from h0) (by decide)
      | some vs =>
        rw [hw] at h0
        simp only at h0 ⊢
        split at h0
        · exact absurd (show (5 : Int) = 0 from h0) (by decide)
        · rename_i h3
          rw [if_neg h3]
          obtain ⟨d, hd⟩ := ht
          refine ⟨d, ?_⟩
          simp only
          rw [hc] at hd h2 ⊢
          rw [List.dropLast_concat]
          cases q with
          | nil => simp at h2
          | cons y q => exact hd
theorem FsR.closeN {l : List Int} {s : Stk} {b : Bool} {e : Int} (h : FsR l (.ok s)) (hb : b = true → 2 ≤ s.cs.length) : FsR l (closeR (needR b e (.ok s))) := fun u hu => by
  obtain ⟨t, ht, h2⟩ := bind_ok hu
  obtain ⟨h3, rfl⟩ := ofP_ok h2
  have hbt := need_true ht
  have := need_same ht
  injection this with this
  subst this
  exact close_fst (h s rfl) (hb hbt) h3
theorem FsR.need {l : List Int} {x : Rs} {b : Bool} {e : Int} (h : FsR l x) : FsR l (needR b e x) := fun s hs => h s (need_same hs)
theorem FsR.label {l : List Int} {x : Rs} {i : Int} (h : FsR l x) : FsR l (labelR i x) := fun s hs => by
  obtain ⟨t, rfl, h2⟩ := bind_ok hs
  split at h2
  · injection h2 with h2
    subst h2
    exact h t rfl
  · cases h2
theorem FsR.ite {l : List Int} {c : Prop} [Decidable c] {x y : Rs} (h1 : FsR l x) (h2 : FsR l y) : FsR l (if c then x else y) := by
  split
  · exact h1
  · exact h2
theorem FsR.tab {k l : List Int} : ∀ (r : List Int) {x : Rs}, FsR k x → FsR k (tabR l r x)
  | [], _, h => h
  | _ :: r, _, h => FsR.tab r h.label.need
theorem FsR.take {l : List Int} {E : EnvP} {i : Ins.Ins} {s : Stk} (h : FsR l (.ok s)) : FsR l (takeR E i s) := by
  unfold takeR
  refine FsR.ite ?_ (FsR.ite ?_ (FsR.ite ?_ (FsR.ite (FsR.tab _ h.label).want.want.kill (FsR.ite h.need.need.want.want.push (FsR.ite ?_ (FsR.ite ?_ (FsR.ite h.push h.push)))))))
  · unfold plainR
    refine FsR.ite h.kill (FsR.ite h.push (FsR.ite (FsR.closeN h fun hb => ?_).open (FsR.ite (FsR.closeN h fun hb => by simpa using hb).need.push (FsR.ite h.want.kill (FsR.ite h.pop (FsR.ite h.want.pop.pop.need.push h.want.push))))))
    rw [Bool.and_eq_true, decide_eq_true_eq, beq_iff_eq] at hb
    obtain ⟨d, hd⟩ := h s rfl
    match hq : s.cs, hb.1 with
    | [c], _ =>
      rw [hq] at hd
      simp only [List.head?_cons, Option.some.injEq] at hd
      have h4 := hb.2
      unfold lastOp at h4
      rw [hq, hd] at h4
      exact absurd (show (2 : Int) = 4 from h4) (by decide)
    | c :: c2 :: q, _ => simp
  · exact (FsR.ite h.want h).open
  · unfold indexR
    refine FsR.ite h.label.want.kill (FsR.ite h.label.want.want.push (FsR.ite h.need.want.push (FsR.ite ?_ (FsR.ite h.need.push (FsR.ite h.need.need.want h)))))
    unfold localR
    exact FsR.ite (FsR.ite h.need h.need.want) (FsR.ite h.need h.need.want).push
  · unfold accessR
    exact FsR.ite h.need.need.want h.need.need.want.push
  · exact (FsR.ite h.need h.need.want).push
theorem go_fst {E : EnvP} {m : List Int} : ∀ (l : List Ins.Ins) (s : Stk), Fst m s → ∀ t ∈ (pathGo E l s).1, Fst m t
  | [], s, h, t, ht => by
    rw [List.mem_singleton.1 ht]
    exact h
  | i :: l, s, h, t, ht => by
    unfold pathGo at ht
    cases hx : instrR E i s with
    | ok u =>
      rw [hx] at ht
      rcases List.mem_cons.1 ht with rfl | ht
      · exact h
      · refine go_fst l u ?_ t ht
        unfold instrR at hx
        split at hx
        · cases hx
        · exact FsR.take (fun v hv => by injection hv with hv; rw [← hv]; exact h) u hx
    | er e =>
      rw [hx] at ht
      rw [List.mem_singleton.1 ht]
      exact h
/-- CheckLeaves, plain: a body that fits. -/
theorem leaves {E : EnvP} {l : List Ins.Ins} (h : bodyR E l = 0) : (pathR E l).2 = 0 ∧ ∃ a, (pathR E l).1[l.length]? = some a ∧ sane a = true ∧ a.vals.length ≤ E.results.length ∧ ∃ d, a.cs = [⟨2, E.results, 0, d⟩] ∧ (d = false → a.vals = E.results) := by
  unfold bodyR at h
  split at h
  · rename_i h0
    refine ⟨h0, ?_⟩
    split at h
    · rename_i hc
      obtain ⟨h1, h2, h3, h4⟩ := path_ok h0
      obtain ⟨a, ha, hl⟩ := path_open h0 l.length (Nat.le_refl _)
      have hs := Bod.sAt_st h1 (p := (opsP l).length) (Nat.le_refl _)
      unfold Bod.Nested at h1
      rw [h1] at hs
      rw [opsP_len] at hs
      rw [← Option.some.inj hs] at hl
      have hla : lastS (pathR E l).1 = a := by
        unfold lastS
        rw [List.getLast?_eq_getElem?, h4, Nat.add_sub_cancel, ha]
        rfl
      rw [hla] at hc
      have hm := List.mem_of_getElem? ha
      rw [h3] at hm
      have hsa := go_sane l (s0 E) (s0_sane h2) a hm
      obtain ⟨c1, d, c2, c3⟩ := close_one hsa (go_live h2 l (s0 E) (s0_live E) a hm) (go_fst l (s0 E) ⟨false, rfl⟩ a hm) hl (env_nz h2).2.2.2 hc
      exact ⟨a, ha, hsa, c1, d, c2, c3⟩
    · exact absurd h (by decide)
  · rename_i hq
    exact absurd h hq
end Go.Proofs.YtlappkflnlbfcaaGreatDoor.Chk
end

section
/- What the laws of layer 10 ask: small ones, paths, stacks in a row, depths. -/
namespace Go.Proofs.YtlappkflnlbfcaaGreatDoor.Chk
open Go.RowKit Row9 Stk
set_option maxRecDepth 100000
set_option maxHeartbeats 1000000
set_option linter.unusedVariables false
theorem small_bd {E : EnvP} (h : smallE E = true) : FnBd E ∧ E.globs.length ≤ 1000 ∧ E.results.length ≤ 20 := by
  unfold smallE at h
  simp only [Bool.and_eq_true, decide_eq_true_eq, List.all_eq_true] at h
  obtain ⟨⟨⟨⟨⟨h1, h2⟩, h3⟩, h4⟩, h5⟩, h6⟩ := h
  exact ⟨⟨fun p hp => by have := h6 p hp; omega, by omega⟩, by omega, h5⟩
theorem opsP_is (l : List (Ins.Ins × Value)) : opsP (l.map (·.1)) = Bod.opsL l := by
  unfold opsP Bod.opsL
  rw [List.map_map]
  rfl
/-- How Path ends, as one value. -/
def PathV (R : List Stk × Int) (w : World) (P : Option Addr) (np cp : Nat) : Prop := (R.2 = 0 → ∃ rows, Row elS w (.slice P np cp) rows ∧ rows.map (·.1) = R.1 ∧ R.1.length = np) ∧ (R.2 ≠ 0 → P = none ∧ np = 0 ∧ cp = 0)
theorem PathV.keep {R : List Stk × Int} {w w' : World} {P : Option Addr} {np cp : Nat} (h : PathV R w P np cp) (hb : Below w.heap.size w w') : PathV R w' P np cp :=
  ⟨fun h0 => by obtain ⟨rows, h1, h2, h3⟩ := h.1 h0; exact ⟨rows, h1.keep hb, h2, h3⟩, h.2⟩
theorem pathV_any {w : World} {V : EV} {E : EnvP} {A : Option Addr} {n c : Nat} {l : List (Ins.Ins × Value)} (h0 : EnvOk elGP w V E) (hr : Ins.InRow w (.slice A n c) l) (hK : Ins.KTab w) (hA : Ins.ATab w) (hF : FnBd E) (hln : l.length = n) (hn : n ≤ 200) :
    Calls Tryz.prog 21 #[evV V E, .slice A n c] w fun e w' => ∃ P np cp, e = .returned (.tuple #[.slice P np cp, .int .i64 (pathR E (l.map (·.1))).2]) ∧ PathV (pathR E (l.map (·.1))) w' P np cp ∧ Below w.heap.size w w' := by
  refine (path_any h0 hr hK hA hF hln hn).mono ?_
  rintro e w' ⟨h, hb⟩
  by_cases hz : (pathR E (l.map (·.1))).2 = 0
  · rw [if_pos hz] at h
    obtain ⟨v, rows, rfl, h1, h2⟩ := h
    obtain ⟨P, cp, rfl, _⟩ := h1.form
    refine ⟨P, rows.length, cp, by rw [hz], ⟨fun _ => ⟨rows, h1, h2, by rw [← h2, List.length_map]⟩, fun h => absurd hz h⟩, hb⟩
  · rw [if_neg hz] at h
    exact ⟨none, 0, 0, h, ⟨fun h => absurd h hz, fun _ => ⟨rfl, rfl, rfl⟩⟩, hb⟩
/-- A stack in a row of stacks. -/
theorem stk_at {w : World} {P : Option Addr} {n c : Nat} {rows : List StV} {R : List Stk} (h : Row elS w (.slice P n c) rows) (hm : rows.map (·.1) = R) {k : Nat} {a : Stk} (hk : R[k]? = some a) :
    ∃ g off Pv cv Pc cc lc, P = some ⟨g, off, none⟩ ∧ g < w.heap.size ∧ w.cell? ⟨g, off + k * 2, none⟩ = some (.slice Pv a.vals.length cv) ∧ w.cell? ⟨g, off + k * 2 + 1, none⟩ = some (.slice Pc a.cs.length cc) ∧ Row elB w (.slice Pv a.vals.length cv) a.vals ∧ Row elP w (.slice Pc a.cs.length cc) lc ∧ lc.map (·.1) = a.cs := by
  rw [← hm, List.getElem?_map] at hk
  cases hp : rows[k]? with
  | none => rw [hp] at hk; cases hk
  | some p =>
    rw [hp] at hk
    obtain rfl := Option.some.inj hk
    obtain ⟨g, off, e, hg, hC, hO⟩ := h.at_ hp
    obtain ⟨va, vc, lc, e2, h1, h2, h3⟩ := hO
    have c0 : w.cell? ⟨g, off + k * 2, none⟩ = some p.2.1 := hC 0 _ rfl
    have c1 : w.cell? ⟨g, off + k * 2 + 1, none⟩ = some p.2.2 := hC 1 _ rfl
    injection e2 with e2
    have e2 := congrArg Array.toList e2
    simp only [List.cons.injEq, and_true] at e2
    obtain ⟨e3, e4⟩ := e2
    rw [e3] at c0
    rw [e4] at c1
    obtain ⟨Pv, cv, rfl, _⟩ := h1.form
    obtain ⟨Pc, cc, e5, _⟩ := h2.form
    have hl : lc.length = p.1.cs.length := by rw [← h3, List.length_map]
    rw [hl] at e5
    subst e5
    exact ⟨g, off, Pv, cv, Pc, cc, lc, e, hg, c0, c1, h1, h2, h3⟩
theorem stk_is {w : World} {Pv Pc : Option Addr} {cv cc : Nat} {a : Stk} {lc : List CtV} (h1 : Row elB w (.slice Pv a.vals.length cv) a.vals) (h2 : Row elP w (.slice Pc a.cs.length cc) lc) (h3 : lc.map (·.1) = a.cs) : StIs elP w (.agg #[.slice Pv a.vals.length cv, .slice Pc a.cs.length cc]) a := ⟨_, _, lc, rfl, h1, h2, h3⟩
theorem dep_len {ops : List Int} (h : Bod.Nested ops) : Bod.dDepths ops = Bod.depL ops ops.length := by
  obtain ⟨ms, hm⟩ := Bod.dM_some h
  unfold Bod.dDepths
  rw [hm]
theorem dep_at {ops : List Int} (h : Bod.Nested ops) {k : Nat} (hk : k < ops.length) : (Bod.dDepths ops)[k]? = some (((Bod.aroundD ops k).length : Nat) : Int) := by
  rw [dep_len h]
  unfold Bod.depL
  rw [List.getElem?_map, List.getElem?_range hk]
  rfl
theorem dep_n {ops : List Int} (h : Bod.Nested ops) : (Bod.dDepths ops).length = ops.length := by
  rw [dep_len h]
  simp [Bod.depL]
/-- Numbers of the call's own. -/
theorem ownI_at {w : World} {B : Nat} {A : Option Addr} {m c : Nat} {l : List Int} (h : Ins.OwnI w B (.slice A m c) l) {k : Nat} {x : Int} (hk : l[k]? = some x) : ∃ g, A = some ⟨g, 0, none⟩ ∧ g < w.heap.size ∧ w.cell? ⟨g, k, none⟩ = some (.int .i64 x) := by
  obtain ⟨h0, ⟨hv, hn⟩ | ⟨g, cap, cur, hv, hB, hc, h4⟩⟩ := id h
  · rw [List.eq_nil_of_length_eq_zero hn] at hk
    simp at hk
  · injection hv with e1 e2 e3
    subst e1
    have := World.ownsRow.cells h (g := g) rfl k (.int .i64 x) (by unfold Ins.vi; rw [List.getElem?_map, hk]; rfl)
    rw [g_plain, Nat.zero_add] at this
    exact ⟨g, rfl, (Array.getElem?_eq_some_iff.1 hc).1, this⟩
theorem i64_and16 (n : Int) : bits .and .i64 n 65535 = n % 65536 := by
  have h : (BitVec.ofInt 64 65535).toNat = 2 ^ 16 - 1 := by decide
  have key : (BitVec.ofInt 64 n &&& BitVec.ofInt 64 65535).toNat = (n % ((2 ^ 64 : Nat) : Int)).toNat % 2 ^ 16 := by
    rw [BitVec.toNat_and, BitVec.toNat_ofInt, h, Nat.and_two_pow_sub_one_eq_mod]
  show IntKind.i64.wrap ((BitVec.ofInt 64 n &&& BitVec.ofInt 64 65535).toNat : Nat) = n % 65536
  rw [key, IntKind.wrap_i64]
  omega
theorem cells7b {w : World} {y : Nat} {a b c d e f g : Value} {t : TypeId} (h : w.heap[y]? = some (.cells #[a, b, c, d, e, f, g] t (0, 0))) : w.cell? ⟨y, 0, none⟩ = some a ∧ w.cell? ⟨y, 1, none⟩ = some b ∧ w.cell? ⟨y, 2, none⟩ = some c ∧ w.cell? ⟨y, 3, none⟩ = some d ∧ w.cell? ⟨y, 4, none⟩ = some e ∧ w.cell? ⟨y, 5, none⟩ = some f ∧ w.cell? ⟨y, 6, none⟩ = some g :=
  ⟨(cells_at h 0).1, (cells_at h 1).1, (cells_at h 2).1, (cells_at h 3).1, (cells_at h 4).1, (cells_at h 5).1, (cells_at h 6).1⟩
/-- The law's env. -/
def EnvC : Prop := ∀ (w : World) (V : EV) (E : EnvP), EnvOk elGD w V E → E.globs.length ≤ 1000 → Calls Tryz.prog 13 #[evV V E] w fun e w' => (∃ V1, e = .returned (evV V1 E) ∧ EnvOk elGP w' V1 E) ∧ Below w.heap.size w w'
end Go.Proofs.YtlappkflnlbfcaaGreatDoor.Chk
end

section
/- The law's env: an Env from the document's, walked (gen_ckenv.py). -/
namespace Go.Proofs.YtlappkflnlbfcaaGreatDoor.Chk
open Go.RowKit Row9 Stk
set_option maxRecDepth 100000
set_option maxHeartbeats 16000000
set_option linter.unusedVariables false
theorem cells7v {w : World} {y : Nat} {a b c d e f g : Value} {t : TypeId} (h : w.heap[y]? = some (.cells #[a, b, c, d, e, f, g] t (0, 0))) : w.cell? ⟨y, 0, none⟩ = some a ∧ w.cell? ⟨y, 1, none⟩ = some b ∧ w.cell? ⟨y, 2, none⟩ = some c ∧ w.cell? ⟨y, 3, none⟩ = some d ∧ w.cell? ⟨y, 4, none⟩ = some e ∧ w.cell? ⟨y, 5, none⟩ = some f ∧ w.cell? ⟨y, 6, none⟩ = some g :=
  ⟨(cells_at h 0).1, (cells_at h 1).1, (cells_at h 2).1, (cells_at h 3).1, (cells_at h 4).1, (cells_at h 5).1, (cells_at h 6).1⟩
theorem below_dr {B : Nat} {w w' : World} (h : Below B w w') : Below B w w'.drew := ⟨h.os, h.tape, h.output, h.size, h.block⟩
theorem env_any {w : World} {V : EV} {E : EnvP} (h : EnvOk elGD w V E) (hn : E.globs.length ≤ 1000) :
    Calls Tryz.prog 13 #[evV V E] w fun e w' => (∃ Pg ng cg, e = .returned (evV { V with Pg := Pg, ng := ng, cg := cg } E) ∧ EnvOk elGP w' { V with Pg := Pg, ng := ng, cg := cg } E) ∧ Below w.heap.size w w' := by
  obtain ⟨⟨ts, hts, hmt⟩, hf, hg, hl, hr, hit, him⟩ := h
  obtain ⟨types, funcs, tb, mm, globs, locals, ress⟩ := E
  obtain ⟨Pt, nt, ct, Pf, nf, cf, Pg, m, cg, Pl, nl, cl, Pr, nr, cr⟩ := V
  simp only at hts hmt hf hg hl hr hn hit him
  have hm : globs.length = m := by
    obtain ⟨_, _, e, _⟩ := hg.form
    injection e with _ e
    exact e.symm
  have HNL := Lib.hid hm
  have HNB : Hid (m ≤ 1000) := Lib.hid (by omega)
  have HTS := Lib.hid hts
  have HMT := Lib.hid hmt
  have HF := Lib.hid hf
  have HG := Lib.hid hg
  have HL := Lib.hid hl
  have HRR := Lib.hid hr
  have HIT := Lib.hid hit
  have HIM := Lib.hid him
  have HB3 : Hid (Below w.heap.size w (((w.alloc (.cells #[.slice Pt nt ct, .slice Pf nf cf, .int .i64 tb, .int .i64 mm, .slice Pg m cg, .slice Pl nl cl, .slice Pr nr cr] 27)).alloc (.cells #[.slice none 0 0, .slice none 0 0, .int .i64 0, .int .i64 0, .slice none 0 0, .slice none 0 0, .slice none 0 0] 45)).alloc (.cells #[.slice Pt nt ct, .slice Pf nf cf, .int .i64 tb, .int .i64 mm, .slice none 0 0, .slice Pl nl cl, .slice Pr nr cr] 45))) := Stk.below3 w (.cells #[.slice Pt nt ct, .slice Pf nf cf, .int .i64 tb, .int .i64 mm, .slice Pg m cg, .slice Pl nl cl, .slice Pr nr cr] 27) (.cells #[.slice none 0 0, .slice none 0 0, .int .i64 0, .int .i64 0, .slice none 0 0, .slice none 0 0, .slice none 0 0] 45) (.cells #[.slice Pt nt ct, .slice Pf nf cf, .int .i64 tb, .int .i64 mm, .slice none 0 0, .slice Pl nl cl, .slice Pr nr cr] 45)
  have HX0 : Hid ((((w.alloc (.cells #[.slice Pt nt ct, .slice Pf nf cf, .int .i64 tb, .int .i64 mm, .slice Pg m cg, .slice Pl nl cl, .slice Pr nr cr] 27)).alloc (.cells #[.slice none 0 0, .slice none 0 0, .int .i64 0, .int .i64 0, .slice none 0 0, .slice none 0 0, .slice none 0 0] 45)).alloc (.cells #[.slice Pt nt ct, .slice Pf nf cf, .int .i64 tb, .int .i64 mm, .slice none 0 0, .slice Pl nl cl, .slice Pr nr cr] 45)).heap[w.heap.size]? = some (.cells #[.slice Pt nt ct, .slice Pf nf cf, .int .i64 tb, .int .i64 mm, .slice Pg m cg, .slice Pl nl cl, .slice Pr nr cr] 27 (0, 0))) := by
    show _ = _
    rw [(below2 (w.alloc (.cells #[.slice Pt nt ct, .slice Pf nf cf, .int .i64 tb, .int .i64 mm, .slice Pg m cg, .slice Pl nl cl, .slice Pr nr cr] 27)) (.cells #[.slice none 0 0, .slice none 0 0, .int .i64 0, .int .i64 0, .slice none 0 0, .slice none 0 0, .slice none 0 0] 45) (.cells #[.slice Pt nt ct, .slice Pf nf cf, .int .i64 tb, .int .i64 mm, .slice none 0 0, .slice Pl nl cl, .slice Pr nr cr] 45)).block w.heap.size (by rw [size_new]; omega)]
    exact heap_new w _
  have HR0 : Hid ((((w.alloc (.cells #[.slice Pt nt ct, .slice Pf nf cf, .int .i64 tb, .int .i64 mm, .slice Pg m cg, .slice Pl nl cl, .slice Pr nr cr] 27)).alloc (.cells #[.slice none 0 0, .slice none 0 0, .int .i64 0, .int .i64 0, .slice none 0 0, .slice none 0 0, .slice none 0 0] 45)).alloc (.cells #[.slice Pt nt ct, .slice Pf nf cf, .int .i64 tb, .int .i64 mm, .slice none 0 0, .slice Pl nl cl, .slice Pr nr cr] 45)).heap[w.heap.size + 1]? = some (.cells #[.slice none 0 0, .slice none 0 0, .int .i64 0, .int .i64 0, .slice none 0 0, .slice none 0 0, .slice none 0 0] 45 (0, 0))) := by
    show _ = _
    rw [(below_new ((w.alloc (.cells #[.slice Pt nt ct, .slice Pf nf cf, .int .i64 tb, .int .i64 mm, .slice Pg m cg, .slice Pl nl cl, .slice Pr nr cr] 27)).alloc (.cells #[.slice none 0 0, .slice none 0 0, .int .i64 0, .int .i64 0, .slice none 0 0, .slice none 0 0, .slice none 0 0] 45)) (.cells #[.slice Pt nt ct, .slice Pf nf cf, .int .i64 tb, .int .i64 mm, .slice none 0 0, .slice Pl nl cl, .slice Pr nr cr] 45)).block (w.heap.size + 1) (by rw [size_new, size_new]; omega)]
    have := heap_new (w.alloc (.cells #[.slice Pt nt ct, .slice Pf nf cf, .int .i64 tb, .int .i64 mm, .slice Pg m cg, .slice Pl nl cl, .slice Pr nr cr] 27)) (.cells #[.slice none 0 0, .slice none 0 0, .int .i64 0, .int .i64 0, .slice none 0 0, .slice none 0 0, .slice none 0 0] 45)
    rw [size_new] at this
    exact this
  have HO0 := Lib.hid (heap_new ((w.alloc (.cells #[.slice Pt nt ct, .slice Pf nf cf, .int .i64 tb, .int .i64 mm, .slice Pg m cg, .slice Pl nl cl, .slice Pr nr cr] 27)).alloc (.cells #[.slice none 0 0, .slice none 0 0, .int .i64 0, .int .i64 0, .slice none 0 0, .slice none 0 0, .slice none 0 0] 45)) (.cells #[.slice Pt nt ct, .slice Pf nf cf, .int .i64 tb, .int .i64 mm, .slice none 0 0, .slice Pl nl cl, .slice Pr nr cr] 45))
  simp only [size_new] at HO0
  clear hts hmt hf hg hl hr hm hn hit him
  have z3 := (cells_at HX0.out 0).1
  show Calls _ _ #[.agg #[.slice Pt nt ct, .slice Pf nf cf, .int .i64 tb, .int .i64 mm, .slice Pg m cg, .slice Pl nl cl, .slice Pr nr cr]] _ _
  clear z3
  go_enter Tryz.func13, Tryz.ntmps13
  go_wp2_with fail
  generalize (((w.alloc (.cells #[.slice Pt nt ct, .slice Pf nf cf, .int .i64 tb, .int .i64 mm, .slice Pg m cg, .slice Pl nl cl, .slice Pr nr cr] 27)).alloc (.cells #[.slice none 0 0, .slice none 0 0, .int .i64 0, .int .i64 0, .slice none 0 0, .slice none 0 0, .slice none 0 0] 45)).alloc (.cells #[.slice Pt nt ct, .slice Pf nf cf, .int .i64 tb, .int .i64 mm, .slice none 0 0, .slice Pl nl cl, .slice Pr nr cr] 45)) = w2 at *
  obtain ⟨x, hx⟩ : ∃ x, w.heap.size = x := ⟨_, rfl⟩
  obtain ⟨r, hr⟩ : ∃ r, x + 1 = r := ⟨_, rfl⟩
  obtain ⟨o, ho⟩ : ∃ o, r + 1 = o := ⟨_, rfl⟩
  rw [hx] at HX0 HR0 HO0 HB3
  rw [hr] at HR0 HO0
  rw [ho] at HO0
  have HXR : Hid (x < r ∧ r < o) := ⟨by omega, by omega⟩
  simp only [hx]
  simp only [hr]
  simp only [ho]
  clear hr ho
  go_loopw [4] (fun i' wr => ∃ (i : Nat) (S : Option Addr) (k : Nat), i' = .int .i64 (i : Int) ∧ i ≤ m ∧ Below x w wr ∧ wr.heap[x]? = some (.cells #[.slice Pt nt ct, .slice Pf nf cf, .int .i64 tb, .int .i64 mm, .slice Pg m cg, .slice Pl nl cl, .slice Pr nr cr] 27 (0, 0)) ∧ wr.heap[r]? = some (.cells #[.slice none 0 0, .slice none 0 0, .int .i64 0, .int .i64 0, .slice none 0 0, .slice none 0 0, .slice none 0 0] 45 (0, 0)) ∧ wr.heap[o]? = some (.cells #[.slice Pt nt ct, .slice Pf nf cf, .int .i64 tb, .int .i64 mm, .slice S i k, .slice Pl nl cl, .slice Pr nr cr] 45 (0, 0)) ∧ Own elGP wr x (.slice S i k) (globs.take i)) (fun i' _ => m - (intOf i').toNat)
  case atStart => exact ⟨0, none, 0, by go_num, Nat.zero_le _, HB3.out, HX0.out, HR0.out, HO0.out, own_nil _ _ _⟩
  case round =>
    obtain ⟨i, S, k, rfl, hi, hbe, hx0, hr0, ho0, hO⟩ := hrel
    have HBe := Lib.hid hbe
    have HX := Lib.hid hx0
    have HR := Lib.hid hr0
    have HOo := Lib.hid ho0
    have HOw := Lib.hid hO
    obtain ⟨a0, a1, a2, a3, a4, a5, a6⟩ := cells7v hx0
    obtain ⟨o0, o1, o2, o3, o4, o5, o6⟩ := cells7v ho0
    have HWr : Hid (Below w.heap.size w wr) := by rw [hx]; exact hbe
    clear hbe hx0 hr0 ho0 hO
    by_cases hlt : i < m
    · obtain ⟨p, hp⟩ : ∃ p, globs[i]? = some p := ⟨_, List.getElem?_eq_getElem (by rw [HNL.out]; exact hlt)⟩
      obtain ⟨g, off, rfl, hg, hC, hOk⟩ := (HG.out.keep HWr.out).at_ hp
      have htk : globs.take (i + 1) = globs.take i ++ [p] := by
        obtain ⟨h1, h2⟩ := List.getElem?_eq_some_iff.1 hp
        rw [List.take_succ_eq_append_getElem h1, h2]
      have hil : (globs.take i).length + 1 = i + 1 := by rw [List.length_take, HNL.out]; omega
      obtain ⟨gv, gm⟩ := p
      have k0 : wr.cell? ⟨g, off + i * 2, none⟩ = some (.int .u8 gv) := hC 0 _ rfl
      have k1 : wr.cell? ⟨g, off + i * 2 + 1, none⟩ = some (.bool gm) := hC 1 _ rfl
      have HOk := Lib.hid hOk
      have HTK := Lib.hid htk
      have HIL := Lib.hid hil
      obtain ⟨qq, hqq⟩ : ∃ qq, off + i * 2 = qq := ⟨_, rfl⟩
      rw [hqq] at k0 k1
      have i1 : (0 : Int) ≤ (i : Int) := by omega
      have i2 : (i : Int) < (m : Int) := by omega
      have hw1 : IntKind.i64.wrap ((i : Int) + 1) = (i : Int) + 1 := IntWalk.i64_in _ (by have := HNB.out; omega)
      have HD := Lib.hid (below_drew1 wr)
      have hxs : x ≤ wr.heap.size := by rw [← hx]; exact HWr.out.size
      have hol : o < wr.heap.size := lt_of_heap HOo.out
      have hxl : x < wr.heap.size := lt_of_heap HX.out
      have hgl := hg
      have HWN := Lib.hid (below_new wr (.cells #[.int .u8 gv, .bool gm] 82))
      have HEND : Hid (∀ g7 c7 w7, Own elGP w7 x (.slice (some ⟨g7, 0, none⟩) (i + 1) c7) (globs.take i ++ [(gv, gm)]) → Below x (wr.alloc (.cells #[.int .u8 gv, .bool gm] 82)).drew w7 → Chg (wr.alloc (.cells #[.int .u8 gv, .bool gm] 82)).drew w7 (Value.slice S i k).ownBlock → w7.heap[o]? = some (.cells #[.slice Pt nt ct, .slice Pf nf cf, .int .i64 tb, .int .i64 mm, .slice S i k, .slice Pl nl cl, .slice Pr nr cr] 45 (0, 0)) ∧ Below x w (w7.setCell ⟨o, 4, none⟩ (.slice (some ⟨g7, 0, none⟩) (i + 1) c7)) ∧ (w7.setCell ⟨o, 4, none⟩ (.slice (some ⟨g7, 0, none⟩) (i + 1) c7)).heap[x]? = some (.cells #[.slice Pt nt ct, .slice Pf nf cf, .int .i64 tb, .int .i64 mm, .slice (some ⟨g, off, none⟩) m cg, .slice Pl nl cl, .slice Pr nr cr] 27 (0, 0)) ∧ (w7.setCell ⟨o, 4, none⟩ (.slice (some ⟨g7, 0, none⟩) (i + 1) c7)).heap[r]? = some (.cells #[.slice none 0 0, .slice none 0 0, .int .i64 0, .int .i64 0, .slice none 0 0, .slice none 0 0, .slice none 0 0] 45 (0, 0)) ∧ (w7.setCell ⟨o, 4, none⟩ (.slice (some ⟨g7, 0, none⟩) (i + 1) c7)).heap[o]? = some (.cells #[.slice Pt nt ct, .slice Pf nf cf, .int .i64 tb, .int .i64 mm, .slice (some ⟨g7, 0, none⟩) (i + 1) c7, .slice Pl nl cl, .slice Pr nr cr] 45 (0, 0)) ∧ Own elGP (w7.setCell ⟨o, 4, none⟩ (.slice (some ⟨g7, 0, none⟩) (i + 1) c7)) x (.slice (some ⟨g7, 0, none⟩) (i + 1) c7) (globs.take (i + 1))) := Lib.hid fun g7 c7 w7 ho7 hb7 hc7 => by
        have ho8 : w7.heap[o]? = some (.cells #[.slice Pt nt ct, .slice Pf nf cf, .int .i64 tb, .int .i64 mm, .slice S i k, .slice Pl nl cl, .slice Pr nr cr] 45 (0, 0)) := (hc7 o (Nat.lt_of_lt_of_le hol HWN.out.size) (fun e => own_notB HOw.out HOo.out (by decide) e.symm rfl)).trans ((HWN.out.block o hol).trans HOo.out)
        have hx8 := (hc7 x (Nat.lt_of_lt_of_le hxl HWN.out.size) (fun e => own_notB HOw.out HX.out (by decide) e.symm rfl)).trans ((HWN.out.block x hxl).trans HX.out)
        have hr8 := (hc7 r (Nat.lt_of_lt_of_le (lt_of_heap HR.out) HWN.out.size) (fun e => own_notB HOw.out HR.out (by decide) e.symm rfl)).trans ((HWN.out.block r (lt_of_heap HR.out)).trans HR.out)
        refine ⟨ho8, (((HBe.out.trans (HWN.out.mono hxs)).trans (show Below x (wr.alloc (.cells #[.int .u8 gv, .bool gm] 82)) (wr.alloc (.cells #[.int .u8 gv, .bool gm] 82)).drew from ⟨rfl, rfl, rfl, Nat.le_refl _, fun _ _ => rfl⟩)).trans hb7).setCell (p := ⟨o, 4, none⟩) (by show x ≤ o; have := HXR.out; omega) (.slice (some ⟨g7, 0, none⟩) (i + 1) c7), ?_, ?_, ?_, ?_⟩
        · rw [chg_set w7 o 4 _ x (lt_of_heap hx8) (by intro e; have := HXR.out; have := Option.some.inj e; omega)]
          exact hx8
        · rw [chg_set w7 o 4 _ r (lt_of_heap hr8) (by intro e; have := HXR.out; have := Option.some.inj e; omega)]
          exact hr8
        · rw [set_heap ho8]
          rfl
        · rw [HTK.out]
          exact own_stay ho7 (w' := w7.setCell ⟨o, 4, none⟩ (.slice (some ⟨g7, 0, none⟩) (i + 1) c7)) fun kk hkk => chg_set w7 o 4 _ kk (World.ownsRow.lt ho7 kk hkk).2 (by intro e; exact own_notB ho7 ho8 (by decide) hkk (Option.some.inj e))
      have HXS : Hid (x ≤ (wr.alloc (.cells #[.int .u8 gv, .bool gm] 82)).drew.heap.size) := Lib.hid (Nat.le_trans hxs HWN.out.size)
      have HOwD := Lib.hid (own_keep HOw.out (below_dr HWN.out))
      have HNLT : Hid (True) := Lib.hid trivial
      clear hp hg hOk htk hil hC HBe HX HR HWr HD HTK a0 a1 a2 a3 a5 a6 o0 o1 o2 o3 o5 o6 hxs hgl
      go_wp2_with fail
      go_region_law (first
        | (refine step_oneG elGP 43 Tryz.underlying43 (wr.alloc (.cells #[.int .u8 gv, .bool gm] 82)).drew rfl (.tmp 26) (.tmp 40) rfl x _ (globs.take i) (gv, gm) (i + 1) HOk.out (by rfl) HOwD.out wr.heap.size (by rfl) (newG' elGP wr _ _ _ rfl rfl) HIL.out (by have := HNB.out; omega) (by decide) HXS.out ?_; intro g7 c7 w7 ho7 hb7 hc7; have HF7 := Lib.hid (HEND.out g7 c7 w7 ho7 hb7 hc7); clear ho7 hb7 hc7; obtain ⟨r0, r1, r2, r3, r4, r5, r6⟩ := cells7v HF7.out.1; have f1 := (cells_at HF7.out.1 4).2; clear r0 r1 r2 r3 r5 r6))
      all_goals (
        clear HEND HXS HOwD k0 k1
        go_wp2_with fail
        go_roundw
        case rel => exact ⟨i + 1, some ⟨g7, 0, none⟩, c7, by go_num, hlt, HF7.out.2.1, HF7.out.2.2.1, HF7.out.2.2.2.1, HF7.out.2.2.2.2.1, HF7.out.2.2.2.2.2⟩
        case measure => simp [intOf]; omega)
    · obtain rfl : i = m := by omega
      have HTK : Hid (globs.take i = globs) := List.take_of_length_le (by rw [HNL.out]; exact Nat.le_refl _)
      rw [HTK.out] at HOw
      obtain ⟨q0, q1, q2, q3, q4, q5, q6⟩ := cells7v HR.out
      obtain ⟨p0, p1, p2, p3, p4, p5, p6⟩ : _ ∧ _ ∧ _ ∧ _ ∧ _ ∧ _ ∧ _ := ⟨(cells_at HR.out 0).2, (cells_at HR.out 1).2, (cells_at HR.out 2).2, (cells_at HR.out 3).2, (cells_at HR.out 4).2, (cells_at HR.out 5).2, (cells_at HR.out 6).2⟩
      have NE : o ≠ r := by have := HXR.out; omega
      go_wp2_with fail
      have hf : (((((((wr.setCell ⟨r, 0, none⟩ (.slice Pt nt ct)).setCell ⟨r, 1, none⟩ (.slice Pf nf cf)).setCell ⟨r, 2, none⟩ (.int .i64 tb)).setCell ⟨r, 3, none⟩ (.int .i64 mm)).setCell ⟨r, 4, none⟩ (.slice S i k)).setCell ⟨r, 5, none⟩ (.slice Pl nl cl)).setCell ⟨r, 6, none⟩ (.slice Pr nr cr)).heap[r]? = some (.cells #[.slice Pt nt ct, .slice Pf nf cf, .int .i64 tb, .int .i64 mm, .slice S i k, .slice Pl nl cl, .slice Pr nr cr] 45 (0, 0)) := by
        rw [set_heap (set_heap (set_heap (set_heap (set_heap (set_heap (set_heap HR.out _) _) _) _) _) _) _]
        rfl
      have hB : Below x w (((((((wr.setCell ⟨r, 0, none⟩ (.slice Pt nt ct)).setCell ⟨r, 1, none⟩ (.slice Pf nf cf)).setCell ⟨r, 2, none⟩ (.int .i64 tb)).setCell ⟨r, 3, none⟩ (.int .i64 mm)).setCell ⟨r, 4, none⟩ (.slice S i k)).setCell ⟨r, 5, none⟩ (.slice Pl nl cl)).setCell ⟨r, 6, none⟩ (.slice Pr nr cr)) := (((((((HBe.out).setCell (p := ⟨r, 0, none⟩) (show x ≤ r by have := HXR.out; omega) (.slice Pt nt ct)).setCell (p := ⟨r, 1, none⟩) (show x ≤ r by have := HXR.out; omega) (.slice Pf nf cf)).setCell (p := ⟨r, 2, none⟩) (show x ≤ r by have := HXR.out; omega) (.int .i64 tb)).setCell (p := ⟨r, 3, none⟩) (show x ≤ r by have := HXR.out; omega) (.int .i64 mm)).setCell (p := ⟨r, 4, none⟩) (show x ≤ r by have := HXR.out; omega) (.slice S i k)).setCell (p := ⟨r, 5, none⟩) (show x ≤ r by have := HXR.out; omega) (.slice Pl nl cl)).setCell (p := ⟨r, 6, none⟩) (show x ≤ r by have := HXR.out; omega) (.slice Pr nr cr)
      have hOw : Own elGP (((((((wr.setCell ⟨r, 0, none⟩ (.slice Pt nt ct)).setCell ⟨r, 1, none⟩ (.slice Pf nf cf)).setCell ⟨r, 2, none⟩ (.int .i64 tb)).setCell ⟨r, 3, none⟩ (.int .i64 mm)).setCell ⟨r, 4, none⟩ (.slice S i k)).setCell ⟨r, 5, none⟩ (.slice Pl nl cl)).setCell ⟨r, 6, none⟩ (.slice Pr nr cr)) x (.slice S i k) globs := own_stay HOw.out (w' := (((((((wr.setCell ⟨r, 0, none⟩ (.slice Pt nt ct)).setCell ⟨r, 1, none⟩ (.slice Pf nf cf)).setCell ⟨r, 2, none⟩ (.int .i64 tb)).setCell ⟨r, 3, none⟩ (.int .i64 mm)).setCell ⟨r, 4, none⟩ (.slice S i k)).setCell ⟨r, 5, none⟩ (.slice Pl nl cl)).setCell ⟨r, 6, none⟩ (.slice Pr nr cr))) fun kk hkk => by
        have hne : kk ≠ r := fun e => own_notB HOw.out HR.out (by decide) (by rw [← e]; exact hkk) rfl
        have hlt := (World.ownsRow.lt HOw.out kk hkk).2
        exact (((((((chg_set ((((((wr.setCell ⟨r, 0, none⟩ (.slice Pt nt ct)).setCell ⟨r, 1, none⟩ (.slice Pf nf cf)).setCell ⟨r, 2, none⟩ (.int .i64 tb)).setCell ⟨r, 3, none⟩ (.int .i64 mm)).setCell ⟨r, 4, none⟩ (.slice S i k)).setCell ⟨r, 5, none⟩ (.slice Pl nl cl)) r 6 (.slice Pr nr cr) kk (by (try simp only [set_size]); exact hlt) (by intro e; exact hne (Option.some.inj e)))).trans (chg_set (((((wr.setCell ⟨r, 0, none⟩ (.slice Pt nt ct)).setCell ⟨r, 1, none⟩ (.slice Pf nf cf)).setCell ⟨r, 2, none⟩ (.int .i64 tb)).setCell ⟨r, 3, none⟩ (.int .i64 mm)).setCell ⟨r, 4, none⟩ (.slice S i k)) r 5 (.slice Pl nl cl) kk (by (try simp only [set_size]); exact hlt) (by intro e; exact hne (Option.some.inj e)))).trans (chg_set ((((wr.setCell ⟨r, 0, none⟩ (.slice Pt nt ct)).setCell ⟨r, 1, none⟩ (.slice Pf nf cf)).setCell ⟨r, 2, none⟩ (.int .i64 tb)).setCell ⟨r, 3, none⟩ (.int .i64 mm)) r 4 (.slice S i k) kk (by (try simp only [set_size]); exact hlt) (by intro e; exact hne (Option.some.inj e)))).trans (chg_set (((wr.setCell ⟨r, 0, none⟩ (.slice Pt nt ct)).setCell ⟨r, 1, none⟩ (.slice Pf nf cf)).setCell ⟨r, 2, none⟩ (.int .i64 tb)) r 3 (.int .i64 mm) kk (by (try simp only [set_size]); exact hlt) (by intro e; exact hne (Option.some.inj e)))).trans (chg_set ((wr.setCell ⟨r, 0, none⟩ (.slice Pt nt ct)).setCell ⟨r, 1, none⟩ (.slice Pf nf cf)) r 2 (.int .i64 tb) kk (by (try simp only [set_size]); exact hlt) (by intro e; exact hne (Option.some.inj e)))).trans (chg_set (wr.setCell ⟨r, 0, none⟩ (.slice Pt nt ct)) r 1 (.slice Pf nf cf) kk (by (try simp only [set_size]); exact hlt) (by intro e; exact hne (Option.some.inj e)))).trans (chg_set wr r 0 (.slice Pt nt ct) kk (by (try simp only [set_size]); exact hlt) (by intro e; exact hne (Option.some.inj e)))
      have hGok : ∀ p ∈ globs, elGP.ok w p := HG.out.2
      generalize (((((((wr.setCell ⟨r, 0, none⟩ (.slice Pt nt ct)).setCell ⟨r, 1, none⟩ (.slice Pf nf cf)).setCell ⟨r, 2, none⟩ (.int .i64 tb)).setCell ⟨r, 3, none⟩ (.int .i64 mm)).setCell ⟨r, 4, none⟩ (.slice S i k)).setCell ⟨r, 5, none⟩ (.slice Pl nl cl)).setCell ⟨r, 6, none⟩ (.slice Pr nr cr)) = wf at *
      obtain ⟨f0, f1, f2, f3, f4, f5, f6⟩ := cells7v hf
      clear q0 q1 q2 q3 q4 q5 q6 p0 p1 p2 p3 p4 p5 p6
      have hW : Below w.heap.size w wf := by rw [hx]; exact hB
      refine bodyPost_ret (v := .agg #[.slice Pt nt ct, .slice Pf nf cf, .int .i64 tb, .int .i64 mm, .slice S i k, .slice Pl nl cl, .slice Pr nr cr]) (by simp [results, Tryz.results13, go_sem, f0, f1, f2, f3, f4, f5, f6]) rfl ⟨⟨S, i, k, rfl, ⟨⟨ts, HTS.out.keep hW, HMT.out⟩, HF.out.keep hW, ?_, HL.out.keep hW, HRR.out.keep hW, HIT.out, HIM.out⟩⟩, hW⟩
      exact hOw.row hGok
end Go.Proofs.YtlappkflnlbfcaaGreatDoor.Chk
end

section
/- The law's env, as the laws ask for it. -/
namespace Go.Proofs.YtlappkflnlbfcaaGreatDoor.Chk
open Go.RowKit Row9 Stk
set_option linter.unusedVariables false
theorem env_c : EnvC := fun w V E h hn => (env_any h hn).mono fun e w' ⟨⟨Pg, ng, cg, h1, h2⟩, hb⟩ => ⟨⟨_, h1, h2⟩, hb⟩
end Go.Proofs.YtlappkflnlbfcaaGreatDoor.Chk
end
