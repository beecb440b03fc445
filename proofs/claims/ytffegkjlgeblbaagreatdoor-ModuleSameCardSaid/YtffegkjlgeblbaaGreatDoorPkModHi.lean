/- ModSm, ModSm2, ModHi. -/
import Derived.Test.YtffegkjlgeblbaaGreatDoorPkModSFElem
import Derived.Test.YtffegkjlgeblbaaGreatDoorPkModLd
import Derived.Test.YtffegkjlgeblbaaGreatDoorPkTypSame
import Derived.Test.YtffegkjlgeblbaaGreatDoorPkBodPut
import Derived.Test.YtffegkjlgeblbaaGreatDoorPkModCount
import Derived.Test.YtffegkjlgeblbaaGreatDoorPkBodTurn
section
/- Are two things of a module the same, by the program: walked. -/
namespace Go.Proofs.YtffegkjlgeblbaaGreatDoor.Mdl
open Go.RowKit Ints Typ Ins
set_option maxRecDepth 100000
set_option maxHeartbeats 4000000
set_option linter.unusedVariables false
def SmTold (P : Prop) (w : World) (e : Ending) (w' : World) : Prop := (∃ r : Bool, e = .returned (.bool r) ∧ (r = true ↔ P)) ∧ Below w.heap.size w w'
theorem bEq_any {u v : Value} {a b : List Int} {w : World} (hu : Sl w u a) (hv : Sl w v b) (ha : ∀ x ∈ a, 0 ≤ x ∧ x < 256) (hb : ∀ x ∈ b, 0 ≤ x ∧ x < 256) : Calls Tryz.prog 109 #[u, v] w (SmTold (a = b) w) := by
  have HS := Lib.hid (str_beq ha hb)
  have h1 := hu.txtOf
  have h2 := hv.txtOf
  obtain ⟨P, c, rfl, _⟩ := id hu
  obtain ⟨Q, d, rfl, _⟩ := id hv
  obtain ⟨s, hs⟩ : ∃ s, strOfNums a = s := ⟨_, rfl⟩
  obtain ⟨t, ht⟩ : ∃ s, strOfNums b = s := ⟨_, rfl⟩
  rw [hs] at HS h1
  rw [ht] at HS h2
  obtain ⟨r, hr⟩ : ∃ r, decide (a = b) = r := ⟨_, rfl⟩
  rw [hr] at HS
  have HR : Hid (r = true ↔ a = b) := Lib.hid (by rw [← hr, decide_eq_true_iff])
  obtain ⟨n, hn⟩ : ∃ n, a.length = n := ⟨_, rfl⟩
  obtain ⟨m, hm⟩ : ∃ n, b.length = n := ⟨_, rfl⟩
  rw [hn] at h1 ⊢
  rw [hm] at h2 ⊢
  have k1 := h1 w (Below.refl _ _)
  have k2 := h2 w (Below.refl _ _)
  clear hu hv ha hb hs ht hr hn hm h1 h2
  go_enter Tryz.func109, Tryz.ntmps109
  go_wp2_with fail
  have hq := HS.out
  exact bodyPost_ret (v := .bool r) (by simp [results, Tryz.results109, go_sem, hq]) rfl ⟨⟨_, rfl, HR.out⟩, Below.refl _ _⟩
theorem psm_glb {p q : GlbT} {w : World} (hp : elG.ok w p) (hq : elG.ok w q) :
    Calls Tryz.prog 54 #[(fun p : GlbT => .agg #[.int .u8 p.1, .bool p.2.1, .int .i64 p.2.2.1.op, .int .i64 p.2.2.1.A, .int .i64 p.2.2.1.B, .int .u64 p.2.2.1.K, p.2.2.2]) p, (fun p : GlbT => .agg #[.int .u8 p.1, .bool p.2.1, .int .i64 p.2.2.1.op, .int .i64 p.2.2.1.A, .int .i64 p.2.2.1.B, .int .u64 p.2.2.1.K, p.2.2.2]) q] w (SmTold ((fun p : GlbT => (p.1, p.2.1, p.2.2.1)) p = (fun p : GlbT => (p.1, p.2.1, p.2.2.1)) q) w) := by
  obtain ⟨v1, m1, ⟨x1, o1⟩⟩ := p
  obtain ⟨v2, m2, ⟨x2, o2⟩⟩ := q
  have HO1 := Lib.hid hp.2.1
  have HO2 := Lib.hid hq.2.1
  obtain ⟨_, ⟨A1, k1, e1, _⟩, _⟩ := hp
  obtain ⟨_, ⟨A2, k2, e2, _⟩, _⟩ := hq
  simp only at e1 e2 HO1 HO2 ⊢
  obtain ⟨n1, hn1⟩ : ∃ m, x1.L.length = m := ⟨_, rfl⟩
  obtain ⟨n2, hn2⟩ : ∃ m, x2.L.length = m := ⟨_, rfl⟩
  rw [hn1] at e1
  rw [hn2] at e2
  subst e1 e2
  clear hn1 hn2
  have HB1 := Lib.hid ((Below.refl w.heap.size w).alloc (Nat.le_refl _) (.cells #[.int .u8 v1, .bool m1, .int .i64 x1.op, .int .i64 x1.A, .int .i64 x1.B, .int .u64 x1.K, .slice A1 n1 k1] 69))
  have HB2 := Lib.hid (HB1.out.alloc HB1.out.size (.cells #[.int .u8 v2, .bool m2, .int .i64 x2.op, .int .i64 x2.A, .int .i64 x2.B, .int .u64 x2.K, .slice A2 n2 k2] 69))
  obtain ⟨W0, hW0⟩ : ∃ W, w.alloc (.cells #[.int .u8 v1, .bool m1, .int .i64 x1.op, .int .i64 x1.A, .int .i64 x1.B, .int .u64 x1.K, .slice A1 n1 k1] 69) = W := ⟨_, rfl⟩
  have HZ : Hid (W0.heap.size = w.heap.size + 1) := Lib.hid (by rw [← hW0]; simp)
  have HC0 : Hid (W0.heap[w.heap.size]? = some (.cells #[.int .u8 v1, .bool m1, .int .i64 x1.op, .int .i64 x1.A, .int .i64 x1.B, .int .u64 x1.K, .slice A1 n1 k1] 69 (0, 0))) := Lib.hid (by rw [← hW0]; exact Sec.heap_new w _)
  rw [hW0] at HB2
  obtain ⟨W1, hW1⟩ : ∃ W, W0.alloc (.cells #[.int .u8 v2, .bool m2, .int .i64 x2.op, .int .i64 x2.A, .int .i64 x2.B, .int .u64 x2.K, .slice A2 n2 k2] 69) = W := ⟨_, rfl⟩
  have HC1 : Hid (W1.heap[w.heap.size]? = some (.cells #[.int .u8 v1, .bool m1, .int .i64 x1.op, .int .i64 x1.A, .int .i64 x1.B, .int .u64 x1.K, .slice A1 n1 k1] 69 (0, 0))) := Lib.hid (by rw [← hW1]; exact bx_keep HC0.out ((Below.refl _ _).alloc (Nat.le_refl _) _))
  have HC2 : Hid (W1.heap[w.heap.size + 1]? = some (.cells #[.int .u8 v2, .bool m2, .int .i64 x2.op, .int .i64 x2.A, .int .i64 x2.B, .int .u64 x2.K, .slice A2 n2 k2] 69 (0, 0))) := Lib.hid (by rw [← hW1, ← HZ.out]; exact Sec.heap_new W0 _)
  rw [hW1] at HB2
  have HW0 := Lib.hid hW0
  have HW1 := Lib.hid hW1
  have HPS := Lib.hid (psame_any (HO1.out.keep HB2.out) (HO2.out.keep HB2.out))
  unfold iv at HPS
  obtain ⟨P, hP⟩ : ∃ P : Prop, ((v1, m1, x1) = (v2, m2, x2)) = P := ⟨_, rfl⟩
  have HP := Lib.hid hP
  rw [hP]
  obtain ⟨b1, hb1⟩ : ∃ b, (v1 == v2) = b := ⟨_, rfl⟩
  obtain ⟨b2, hb2⟩ : ∃ b, (m1 == m2) = b := ⟨_, rfl⟩
  obtain ⟨b3, hb3⟩ : ∃ b, smI x1 x2 = b := ⟨_, rfl⟩
  rw [hb3] at HPS
  have HR : Hid ((b1 && (b2 && b3)) = true ↔ P) := Lib.hid (by
    rw [← HP.out, ← hb1, ← hb2, ← hb3, Bool.and_eq_true, Bool.and_eq_true, Bod.smI_eq]
    simp)
  have d1 : decide (v1 = v2) = b1 := by rw [← hb1]; rfl
  have d2 : decide (m1 = m2) = b2 := by rw [← hb2]; cases m1 <;> cases m2 <;> rfl
  have c10 := (Sec.cells_at HC1.out 0).1
  have c11 := (Sec.cells_at HC1.out 1).1
  have c12 := (Sec.cells_at HC1.out 2).1
  have c13 := (Sec.cells_at HC1.out 3).1
  have c14 := (Sec.cells_at HC1.out 4).1
  have c15 := (Sec.cells_at HC1.out 5).1
  have c16 := (Sec.cells_at HC1.out 6).1
  have c20 := (Sec.cells_at HC2.out 0).1
  have c21 := (Sec.cells_at HC2.out 1).1
  have c22 := (Sec.cells_at HC2.out 2).1
  have c23 := (Sec.cells_at HC2.out 3).1
  have c24 := (Sec.cells_at HC2.out 4).1
  have c25 := (Sec.cells_at HC2.out 5).1
  have c26 := (Sec.cells_at HC2.out 6).1
  clear hP hb3 hW0 hW1
  cases b1 <;> cases b2 <;> (
    go_enter Tryz.func54, Tryz.ntmps54
    go_wp2_with fail
    try rw [HW0.out, HW1.out]
    first
    | exact bodyPost_ret (v := .bool false) (by simp [results, Tryz.results54, go_sem]) rfl ⟨⟨_, rfl, by rw [← HR.out]; simp⟩, HB2.out⟩
    | (refine HPS.out.mono ?_
       rintro e w1 ⟨rfl, hb⟩
       have HBF := Lib.hid (HB2.out.trans (hb.mono HB2.out.size))
       clear hb
       go_wp2_with fail
       exact bodyPost_ret (v := .bool b3) (by simp [results, Tryz.results54, go_sem]) rfl ⟨⟨_, rfl, by rw [← HR.out]; simp⟩, HBF.out⟩))
end Go.Proofs.YtffegkjlgeblbaaGreatDoor.Mdl
end

section
/- Are two things of a module the same, by the program: elements, codes, data: walked. -/
namespace Go.Proofs.YtffegkjlgeblbaaGreatDoor.Mdl
open Go.RowKit Ints Typ Ins
set_option maxRecDepth 100000
set_option maxHeartbeats 4000000
set_option linter.unusedVariables false
theorem psm_elm {p q : ElmT} {w : World} (hp : elE.ok w p) (hq : elE.ok w q) :
    Calls Tryz.prog 57 #[(fun p : ElmT => .agg #[.int .i64 p.1.1.op, .int .i64 p.1.1.A, .int .i64 p.1.1.B, .int .u64 p.1.1.K, p.1.2, p.2.2]) p, (fun p : ElmT => .agg #[.int .i64 p.1.1.op, .int .i64 p.1.1.A, .int .i64 p.1.1.B, .int .u64 p.1.1.K, p.1.2, p.2.2]) q] w (SmTold ((fun p : ElmT => (p.1.1, p.2.1)) p = (fun p : ElmT => (p.1.1, p.2.1)) q) w) := by
  obtain ⟨⟨x1, o1⟩, ⟨y1, u1⟩⟩ := p
  obtain ⟨⟨x2, o2⟩, ⟨y2, u2⟩⟩ := q
  have HO1 := Lib.hid hp.1
  have HO2 := Lib.hid hq.1
  have HL1 := Lib.hid hp.2
  have HL2 := Lib.hid hq.2
  obtain ⟨⟨⟨A1, k1, e1, _⟩, _⟩, ⟨B1, j1, f1, _⟩⟩ := hp
  obtain ⟨⟨⟨A2, k2, e2, _⟩, _⟩, ⟨B2, j2, f2, _⟩⟩ := hq
  simp only at e1 e2 f1 f2 HO1 HO2 HL1 HL2 ⊢
  obtain ⟨n1, hn1⟩ : ∃ m, x1.L.length = m := ⟨_, rfl⟩
  rw [hn1] at e1
  subst e1
  obtain ⟨n2, hn2⟩ : ∃ m, x2.L.length = m := ⟨_, rfl⟩
  rw [hn2] at e2
  subst e2
  obtain ⟨m1, hm1⟩ : ∃ m, y1.length = m := ⟨_, rfl⟩
  rw [hm1] at f1
  obtain ⟨m2, hm2⟩ : ∃ m, y2.length = m := ⟨_, rfl⟩
  rw [hm2] at f2
  subst f1 f2
  clear hn1 hn2 hm1 hm2
  have HB1 := Lib.hid ((Below.refl w.heap.size w).alloc (Nat.le_refl _) (.cells #[.int .i64 x1.op, .int .i64 x1.A, .int .i64 x1.B, .int .u64 x1.K, .slice A1 n1 k1, .slice B1 m1 j1] 87))
  have HB2 := Lib.hid (HB1.out.alloc HB1.out.size (.cells #[.int .i64 x2.op, .int .i64 x2.A, .int .i64 x2.B, .int .u64 x2.K, .slice A2 n2 k2, .slice B2 m2 j2] 87))
  obtain ⟨W0, hW0⟩ : ∃ W, w.alloc (.cells #[.int .i64 x1.op, .int .i64 x1.A, .int .i64 x1.B, .int .u64 x1.K, .slice A1 n1 k1, .slice B1 m1 j1] 87) = W := ⟨_, rfl⟩
  have HZ : Hid (W0.heap.size = w.heap.size + 1) := Lib.hid (by rw [← hW0]; simp)
  have HC0 : Hid (W0.heap[w.heap.size]? = some (.cells #[.int .i64 x1.op, .int .i64 x1.A, .int .i64 x1.B, .int .u64 x1.K, .slice A1 n1 k1, .slice B1 m1 j1] 87 (0, 0))) := Lib.hid (by rw [← hW0]; exact Sec.heap_new w _)
  rw [hW0] at HB2
  obtain ⟨W1, hW1⟩ : ∃ W, W0.alloc (.cells #[.int .i64 x2.op, .int .i64 x2.A, .int .i64 x2.B, .int .u64 x2.K, .slice A2 n2 k2, .slice B2 m2 j2] 87) = W := ⟨_, rfl⟩
  have HC1 : Hid (W1.heap[w.heap.size]? = some (.cells #[.int .i64 x1.op, .int .i64 x1.A, .int .i64 x1.B, .int .u64 x1.K, .slice A1 n1 k1, .slice B1 m1 j1] 87 (0, 0))) := Lib.hid (by rw [← hW1]; exact bx_keep HC0.out ((Below.refl _ _).alloc (Nat.le_refl _) _))
  have HC2 : Hid (W1.heap[w.heap.size + 1]? = some (.cells #[.int .i64 x2.op, .int .i64 x2.A, .int .i64 x2.B, .int .u64 x2.K, .slice A2 n2 k2, .slice B2 m2 j2] 87 (0, 0))) := Lib.hid (by rw [← hW1, ← HZ.out]; exact Sec.heap_new W0 _)
  rw [hW1] at HB2
  have HW0 := Lib.hid hW0
  have HW1 := Lib.hid hW1
  obtain ⟨P, hP⟩ : ∃ P : Prop, ((x1, y1) = (x2, y2)) = P := ⟨_, rfl⟩
  have HP := Lib.hid hP
  rw [hP]
  have HK1 := Lib.hid (fun W (hb : Below w.heap.size w W) => (psame_any (HO1.out.1.keep hb) (HO2.out.1.keep hb)).mono fun en w' h => (show SmTold (x1 = x2) W en w' from ⟨⟨_, h.1, Bod.smI_eq⟩, h.2⟩))
  have HK2 := Lib.hid (fun W (hb : Below w.heap.size w W) => (equal_any (HL1.out.keep hb) (HL2.out.keep hb)).mono fun en w' h => (show SmTold (y1 = y2) W en w' from ⟨⟨_, h.1, decide_eq_true_iff⟩, h.2⟩))
  have c10 := (Sec.cells_at HC1.out 0).1
  have c11 := (Sec.cells_at HC1.out 1).1
  have c12 := (Sec.cells_at HC1.out 2).1
  have c13 := (Sec.cells_at HC1.out 3).1
  have c14 := (Sec.cells_at HC1.out 4).1
  have c15 := (Sec.cells_at HC1.out 5).1
  have c20 := (Sec.cells_at HC2.out 0).1
  have c21 := (Sec.cells_at HC2.out 1).1
  have c22 := (Sec.cells_at HC2.out 2).1
  have c23 := (Sec.cells_at HC2.out 3).1
  have c24 := (Sec.cells_at HC2.out 4).1
  have c25 := (Sec.cells_at HC2.out 5).1
  clear hP hW0 hW1
  unfold SmTold at HK1 HK2
  go_enter Tryz.func57, Tryz.ntmps57
  go_wp2_with fail
  rw [HW0.out, HW1.out]
  refine (HK1.out W1 HB2.out).mono ?_
  rintro e w1 ⟨⟨r1, rfl, hr1⟩, hb1⟩
  have HR1 := Lib.hid hr1
  have HBA := Lib.hid (HB2.out.trans (hb1.mono HB2.out.size))
  have HD1 := Lib.hid (bx_keep HC1.out hb1)
  have HD2 := Lib.hid (bx_keep HC2.out hb1)
  clear c10 c20
  clear c11 c21
  clear c12 c22
  clear c13 c23
  clear c14 c24
  clear c15 c25
  have c10 := (Sec.cells_at HD1.out 0).1
  have c20 := (Sec.cells_at HD2.out 0).1
  have c11 := (Sec.cells_at HD1.out 1).1
  have c21 := (Sec.cells_at HD2.out 1).1
  have c12 := (Sec.cells_at HD1.out 2).1
  have c22 := (Sec.cells_at HD2.out 2).1
  have c13 := (Sec.cells_at HD1.out 3).1
  have c23 := (Sec.cells_at HD2.out 3).1
  have c14 := (Sec.cells_at HD1.out 4).1
  have c24 := (Sec.cells_at HD2.out 4).1
  have c15 := (Sec.cells_at HD1.out 5).1
  have c25 := (Sec.cells_at HD2.out 5).1
  clear hr1 hb1
  cases r1 with
  | false =>
    go_wp2_with fail
    exact bodyPost_ret (v := .bool false) (by simp [results, Tryz.results57, go_sem]) rfl ⟨⟨_, rfl, by rw [← HP.out]; refine ⟨fun h => (by cases h), fun h => ?_⟩; exact HR1.out.2 ((Prod.mk.inj h).1)⟩, HBA.out⟩
  | true =>
    go_wp2_with fail
    refine (HK2.out w1 HBA.out).mono ?_
    rintro e w2 ⟨⟨r2, rfl, hr2⟩, hb2⟩
    have HR2 := Lib.hid hr2
    have HBB := Lib.hid (HBA.out.trans (hb2.mono HBA.out.size))
    clear hr2 hb2
    go_wp2_with fail
    exact bodyPost_ret (v := .bool r2) (by simp [results, Tryz.results57, go_sem]) rfl ⟨⟨_, rfl, by rw [← HP.out, HR2.out]; have h1 := HR1.out.1 (by trivial); exact ⟨fun h2 => by rw [h1, h2], fun h => (Prod.mk.inj h).2⟩⟩, HBB.out⟩
theorem psm_dat {p q : DatT} {w : World} (hp : elD.ok w p) (hq : elD.ok w q) :
    Calls Tryz.prog 61 #[(fun p : DatT => .agg #[.int .i64 p.1.1.op, .int .i64 p.1.1.A, .int .i64 p.1.1.B, .int .u64 p.1.1.K, p.1.2, p.2.2]) p, (fun p : DatT => .agg #[.int .i64 p.1.1.op, .int .i64 p.1.1.A, .int .i64 p.1.1.B, .int .u64 p.1.1.K, p.1.2, p.2.2]) q] w (SmTold ((fun p : DatT => (p.1.1, p.2.1)) p = (fun p : DatT => (p.1.1, p.2.1)) q) w) := by
  obtain ⟨⟨x1, o1⟩, ⟨y1, u1⟩⟩ := p
  obtain ⟨⟨x2, o2⟩, ⟨y2, u2⟩⟩ := q
  have HO1 := Lib.hid hp.1
  have HO2 := Lib.hid hq.1
  have HL1 := Lib.hid hp.2
  have HL2 := Lib.hid hq.2
  obtain ⟨⟨⟨A1, k1, e1, _⟩, _⟩, ⟨⟨B1, j1, f1, _⟩, _⟩⟩ := hp
  obtain ⟨⟨⟨A2, k2, e2, _⟩, _⟩, ⟨⟨B2, j2, f2, _⟩, _⟩⟩ := hq
  simp only at e1 e2 f1 f2 HO1 HO2 HL1 HL2 ⊢
  obtain ⟨n1, hn1⟩ : ∃ m, x1.L.length = m := ⟨_, rfl⟩
  rw [hn1] at e1
  subst e1
  obtain ⟨n2, hn2⟩ : ∃ m, x2.L.length = m := ⟨_, rfl⟩
  rw [hn2] at e2
  subst e2
  obtain ⟨m1, hm1⟩ : ∃ m, y1.length = m := ⟨_, rfl⟩
  rw [hm1] at f1
  obtain ⟨m2, hm2⟩ : ∃ m, y2.length = m := ⟨_, rfl⟩
  rw [hm2] at f2
  subst f1 f2
  clear hn1 hn2 hm1 hm2
  have HB1 := Lib.hid ((Below.refl w.heap.size w).alloc (Nat.le_refl _) (.cells #[.int .i64 x1.op, .int .i64 x1.A, .int .i64 x1.B, .int .u64 x1.K, .slice A1 n1 k1, .slice B1 m1 j1] 93))
  have HB2 := Lib.hid (HB1.out.alloc HB1.out.size (.cells #[.int .i64 x2.op, .int .i64 x2.A, .int .i64 x2.B, .int .u64 x2.K, .slice A2 n2 k2, .slice B2 m2 j2] 93))
  obtain ⟨W0, hW0⟩ : ∃ W, w.alloc (.cells #[.int .i64 x1.op, .int .i64 x1.A, .int .i64 x1.B, .int .u64 x1.K, .slice A1 n1 k1, .slice B1 m1 j1] 93) = W := ⟨_, rfl⟩
  have HZ : Hid (W0.heap.size = w.heap.size + 1) := Lib.hid (by rw [← hW0]; simp)
  have HC0 : Hid (W0.heap[w.heap.size]? = some (.cells #[.int .i64 x1.op, .int .i64 x1.A, .int .i64 x1.B, .int .u64 x1.K, .slice A1 n1 k1, .slice B1 m1 j1] 93 (0, 0))) := Lib.hid (by rw [← hW0]; exact Sec.heap_new w _)
  rw [hW0] at HB2
  obtain ⟨W1, hW1⟩ : ∃ W, W0.alloc (.cells #[.int .i64 x2.op, .int .i64 x2.A, .int .i64 x2.B, .int .u64 x2.K, .slice A2 n2 k2, .slice B2 m2 j2] 93) = W := ⟨_, rfl⟩
  have HC1 : Hid (W1.heap[w.heap.size]? = some (.cells #[.int .i64 x1.op, .int .i64 x1.A, .int .i64 x1.B, .int .u64 x1.K, .slice A1 n1 k1, .slice B1 m1 j1] 93 (0, 0))) := Lib.hid (by rw [← hW1]; exact bx_keep HC0.out ((Below.refl _ _).alloc (Nat.le_refl _) _))
  have HC2 : Hid (W1.heap[w.heap.size + 1]? = some (.cells #[.int .i64 x2.op, .int .i64 x2.A, .int .i64 x2.B, .int .u64 x2.K, .slice A2 n2 k2, .slice B2 m2 j2] 93 (0, 0))) := Lib.hid (by rw [← hW1, ← HZ.out]; exact Sec.heap_new W0 _)
  rw [hW1] at HB2
  have HW0 := Lib.hid hW0
  have HW1 := Lib.hid hW1
  obtain ⟨P, hP⟩ : ∃ P : Prop, ((x1, y1) = (x2, y2)) = P := ⟨_, rfl⟩
  have HP := Lib.hid hP
  rw [hP]
  have HK1 := Lib.hid (fun W (hb : Below w.heap.size w W) => (psame_any (HO1.out.1.keep hb) (HO2.out.1.keep hb)).mono fun en w' h => (show SmTold (x1 = x2) W en w' from ⟨⟨_, h.1, Bod.smI_eq⟩, h.2⟩))
  have HK2 := Lib.hid (fun W (hb : Below w.heap.size w W) => bEq_any (HL1.out.1.keep hb) (HL2.out.1.keep hb) HL1.out.2 HL2.out.2)
  have c10 := (Sec.cells_at HC1.out 0).1
  have c11 := (Sec.cells_at HC1.out 1).1
  have c12 := (Sec.cells_at HC1.out 2).1
  have c13 := (Sec.cells_at HC1.out 3).1
  have c14 := (Sec.cells_at HC1.out 4).1
  have c15 := (Sec.cells_at HC1.out 5).1
  have c20 := (Sec.cells_at HC2.out 0).1
  have c21 := (Sec.cells_at HC2.out 1).1
  have c22 := (Sec.cells_at HC2.out 2).1
  have c23 := (Sec.cells_at HC2.out 3).1
  have c24 := (Sec.cells_at HC2.out 4).1
  have c25 := (Sec.cells_at HC2.out 5).1
  clear hP hW0 hW1
  unfold SmTold at HK1 HK2
  go_enter Tryz.func61, Tryz.ntmps61
  go_wp2_with fail
  rw [HW0.out, HW1.out]
  refine (HK1.out W1 HB2.out).mono ?_
  rintro e w1 ⟨⟨r1, rfl, hr1⟩, hb1⟩
  have HR1 := Lib.hid hr1
  have HBA := Lib.hid (HB2.out.trans (hb1.mono HB2.out.size))
  have HD1 := Lib.hid (bx_keep HC1.out hb1)
  have HD2 := Lib.hid (bx_keep HC2.out hb1)
  clear c10 c20
  clear c11 c21
  clear c12 c22
  clear c13 c23
  clear c14 c24
  clear c15 c25
  have c10 := (Sec.cells_at HD1.out 0).1
  have c20 := (Sec.cells_at HD2.out 0).1
  have c11 := (Sec.cells_at HD1.out 1).1
  have c21 := (Sec.cells_at HD2.out 1).1
  have c12 := (Sec.cells_at HD1.out 2).1
  have c22 := (Sec.cells_at HD2.out 2).1
  have c13 := (Sec.cells_at HD1.out 3).1
  have c23 := (Sec.cells_at HD2.out 3).1
  have c14 := (Sec.cells_at HD1.out 4).1
  have c24 := (Sec.cells_at HD2.out 4).1
  have c15 := (Sec.cells_at HD1.out 5).1
  have c25 := (Sec.cells_at HD2.out 5).1
  clear hr1 hb1
  cases r1 with
  | false =>
    go_wp2_with fail
    exact bodyPost_ret (v := .bool false) (by simp [results, Tryz.results61, go_sem]) rfl ⟨⟨_, rfl, by rw [← HP.out]; refine ⟨fun h => (by cases h), fun h => ?_⟩; exact HR1.out.2 ((Prod.mk.inj h).1)⟩, HBA.out⟩
  | true =>
    go_wp2_with fail
    refine (HK2.out w1 HBA.out).mono ?_
    rintro e w2 ⟨⟨r2, rfl, hr2⟩, hb2⟩
    have HR2 := Lib.hid hr2
    have HBB := Lib.hid (HBA.out.trans (hb2.mono HBA.out.size))
    clear hr2 hb2
    go_wp2_with fail
    exact bodyPost_ret (v := .bool r2) (by simp [results, Tryz.results61, go_sem]) rfl ⟨⟨_, rfl, by rw [← HP.out, HR2.out]; have h1 := HR1.out.1 (by trivial); exact ⟨fun h2 => by rw [h1, h2], fun h => (Prod.mk.inj h).2⟩⟩, HBB.out⟩
theorem psm_cod {p q : CodT} {w : World} (hbig : p.2.1.length ≤ 80000) (hp : elC.ok w p) (hq : elC.ok w q) :
    Calls Tryz.prog 59 #[(fun p : CodT => .agg #[p.1.2, p.2.2]) p, (fun p : CodT => .agg #[p.1.2, p.2.2]) q] w (SmTold ((fun p : CodT => (p.1.1, Bod.insL p.2.1)) p = (fun p : CodT => (p.1.1, Bod.insL p.2.1)) q) w) := by
  obtain ⟨⟨x1, o1⟩, ⟨y1, u1⟩⟩ := p
  obtain ⟨⟨x2, o2⟩, ⟨y2, u2⟩⟩ := q
  have HL1 := Lib.hid hp.1
  have HL2 := Lib.hid hq.1
  have HR1' := Lib.hid hp.2
  have HR2' := Lib.hid hq.2
  have HBG := Lib.hid hbig
  obtain ⟨⟨⟨A1, k1, e1, _⟩, _⟩, ⟨⟨B1, j1, f1, _⟩, _⟩⟩ := hp
  obtain ⟨⟨⟨A2, k2, e2, _⟩, _⟩, ⟨⟨B2, j2, f2, _⟩, _⟩⟩ := hq
  simp only at e1 e2 f1 f2 HL1 HL2 HR1' HR2' HBG ⊢
  obtain ⟨n1, hn1⟩ : ∃ m, x1.length = m := ⟨_, rfl⟩
  rw [hn1] at e1
  obtain ⟨n2, hn2⟩ : ∃ m, x2.length = m := ⟨_, rfl⟩
  rw [hn2] at e2
  obtain ⟨m1, hm1⟩ : ∃ m, y1.length = m := ⟨_, rfl⟩
  rw [hm1] at f1
  obtain ⟨m2, hm2⟩ : ∃ m, y2.length = m := ⟨_, rfl⟩
  rw [hm2] at f2
  subst e1 e2 f1 f2
  clear hn1 hn2 hm1 hm2 hbig
  have HB1 := Lib.hid ((Below.refl w.heap.size w).alloc (Nat.le_refl _) (.cells #[.slice A1 n1 k1, .slice B1 m1 j1] 90))
  have HB2 := Lib.hid (HB1.out.alloc HB1.out.size (.cells #[.slice A2 n2 k2, .slice B2 m2 j2] 90))
  obtain ⟨W0, hW0⟩ : ∃ W, w.alloc (.cells #[.slice A1 n1 k1, .slice B1 m1 j1] 90) = W := ⟨_, rfl⟩
  have HZ : Hid (W0.heap.size = w.heap.size + 1) := Lib.hid (by rw [← hW0]; simp)
  have HC0 : Hid (W0.heap[w.heap.size]? = some (.cells #[.slice A1 n1 k1, .slice B1 m1 j1] 90 (0, 0))) := Lib.hid (by rw [← hW0]; exact Sec.heap_new w _)
  rw [hW0] at HB2
  obtain ⟨W1, hW1⟩ : ∃ W, W0.alloc (.cells #[.slice A2 n2 k2, .slice B2 m2 j2] 90) = W := ⟨_, rfl⟩
  have HC1 : Hid (W1.heap[w.heap.size]? = some (.cells #[.slice A1 n1 k1, .slice B1 m1 j1] 90 (0, 0))) := Lib.hid (by rw [← hW1]; exact bx_keep HC0.out ((Below.refl _ _).alloc (Nat.le_refl _) _))
  have HC2 : Hid (W1.heap[w.heap.size + 1]? = some (.cells #[.slice A2 n2 k2, .slice B2 m2 j2] 90 (0, 0))) := Lib.hid (by rw [← hW1, ← HZ.out]; exact Sec.heap_new W0 _)
  rw [hW1] at HB2
  have HW0 := Lib.hid hW0
  have HW1 := Lib.hid hW1
  obtain ⟨P, hP⟩ : ∃ P : Prop, ((x1, Bod.insL y1) = (x2, Bod.insL y2)) = P := ⟨_, rfl⟩
  have HP := Lib.hid hP
  rw [hP]
  have HK1 := Lib.hid (fun W (hb : Below w.heap.size w W) => bEq_any (HL1.out.1.keep hb) (HL2.out.1.keep hb) HL1.out.2 HL2.out.2)
  have HK2 := Lib.hid (fun W (hb : Below w.heap.size w W) => (Bod.bsameP_any HBG.out (HR1'.out.keep hb) (HR2'.out.keep hb)).mono fun en w' h => (show SmTold (Bod.insL y1 = Bod.insL y2) W en w' from h))
  have c10 := (Sec.cells_at HC1.out 0).1
  have c11 := (Sec.cells_at HC1.out 1).1
  have c20 := (Sec.cells_at HC2.out 0).1
  have c21 := (Sec.cells_at HC2.out 1).1
  clear hP hW0 hW1
  unfold SmTold at HK1 HK2
  go_enter Tryz.func59, Tryz.ntmps59
  go_wp2_with fail
  rw [HW0.out, HW1.out]
  refine (HK1.out W1 HB2.out).mono ?_
  rintro e w1 ⟨⟨r1, rfl, hr1⟩, hb1⟩
  have HR1 := Lib.hid hr1
  have HBA := Lib.hid (HB2.out.trans (hb1.mono HB2.out.size))
  have HD1 := Lib.hid (bx_keep HC1.out hb1)
  have HD2 := Lib.hid (bx_keep HC2.out hb1)
  clear c10 c20
  clear c11 c21
  have c10 := (Sec.cells_at HD1.out 0).1
  have c20 := (Sec.cells_at HD2.out 0).1
  have c11 := (Sec.cells_at HD1.out 1).1
  have c21 := (Sec.cells_at HD2.out 1).1
  clear hr1 hb1
  cases r1 with
  | false =>
    go_wp2_with fail
    exact bodyPost_ret (v := .bool false) (by simp [results, Tryz.results59, go_sem]) rfl ⟨⟨_, rfl, by rw [← HP.out]; refine ⟨fun h => (by cases h), fun h => ?_⟩; exact HR1.out.2 ((Prod.mk.inj h).1)⟩, HBA.out⟩
  | true =>
    go_wp2_with fail
    refine (HK2.out w1 HBA.out).mono ?_
    rintro e w2 ⟨⟨r2, rfl, hr2⟩, hb2⟩
    have HR2 := Lib.hid hr2
    have HBB := Lib.hid (HBA.out.trans (hb2.mono HBA.out.size))
    clear hr2 hb2
    go_wp2_with fail
    exact bodyPost_ret (v := .bool r2) (by simp [results, Tryz.results59, go_sem]) rfl ⟨⟨_, rfl, by rw [← HP.out, HR2.out]; have h1 := HR1.out.1 (by trivial); exact ⟨fun h2 => by rw [h1, h2], fun h => (Prod.mk.inj h).2⟩⟩, HBB.out⟩
theorem psm_fun {p q : FunT} {w : World} (hp : elF.ok w p) (hq : elF.ok w q) :
    Calls Tryz.prog 49 #[(fun p : FunT => .agg #[p.1.2, p.2.2]) p, (fun p : FunT => .agg #[p.1.2, p.2.2]) q] w (SmTold ((fun p : FunT => (p.1.1, p.2.1)) p = (fun p : FunT => (p.1.1, p.2.1)) q) w) := by
  obtain ⟨⟨x1, o1⟩, ⟨y1, u1⟩⟩ := p
  obtain ⟨⟨x2, o2⟩, ⟨y2, u2⟩⟩ := q
  refine (same_any o1 u1 o2 u2 x1 y1 x2 y2 w hp.1.1 hp.2.1 hq.1.1 hq.2.1 hp.1.2 hp.2.2 hq.1.2 hq.2.2).mono fun en w' h => ⟨⟨_, h.1, ?_⟩, h.2⟩
  unfold smL
  by_cases h1 : x1 = x2
  · subst h1
    simp
  · simp [h1]
end Go.Proofs.YtffegkjlgeblbaaGreatDoor.Mdl
end

section
/- What stays of memory of the call's own while rows of one element type grow beside it. -/
namespace Go.Proofs.YtffegkjlgeblbaaGreatDoor.Mdl
open Go.RowKit Ints Typ Ins
set_option maxRecDepth 100000
set_option maxHeartbeats 1000000
set_option linter.unusedVariables false
def tyOf (w : World) (k : Nat) : Option TypeId := match w.heap[k]? with
  | some (.cells _ t _) => some t
  | _ => none
structure Agr (B : Nat) (t : TypeId) (w w' : World) : Prop where
  size : w.heap.size ≤ w'.heap.size
  block : ∀ k, B ≤ k → k < w.heap.size → tyOf w k ≠ some t → w'.heap[k]? = w.heap[k]?
theorem Agr.refl (B : Nat) (t : TypeId) (w : World) : Agr B t w w := ⟨Nat.le_refl _, fun _ _ _ _ => rfl⟩
theorem Agr.trans {B : Nat} {t : TypeId} {a b c : World} (h : Agr B t a b) (k : Agr B t b c) : Agr B t a c := by
  refine ⟨Nat.le_trans h.size k.size, fun i hi hlt ht => ?_⟩
  have e := h.block i hi hlt ht
  rw [k.block i hi (Nat.lt_of_lt_of_le hlt h.size) (by unfold tyOf at ht ⊢; rw [e]; exact ht), e]
theorem Agr.mono {B B' : Nat} {t : TypeId} {w w' : World} (h : Agr B t w w') (hB : B ≤ B') : Agr B' t w w' := ⟨h.size, fun k hk => h.block k (by omega)⟩
theorem Agr.of_below {B : Nat} {t : TypeId} {w w' : World} (h : Below w.heap.size w w') : Agr B t w w' := ⟨h.size, fun k _ hk _ => h.block k hk⟩
theorem Agr.of_but {B g : Nat} {t : TypeId} {w w' : World} (h : But g w w') (hg : g < B) : Agr B t w w' := ⟨h.size, fun k hk hlt _ => h.block k hlt (by omega)⟩
theorem Agr.of_row {B B0 n s : Nat} {t : TypeId} {v : Value} {xs : List Value} {w w' : World} (ho : w.ownsRow B0 t s v n xs) (hs : w.heap.size ≤ w'.heap.size) (h : ∀ k, k < w.heap.size → some k ≠ v.ownBlock → w'.heap[k]? = w.heap[k]?) : Agr B t w w' := by
  refine ⟨hs, fun k _ hlt ht => h k hlt fun e => ht ?_⟩
  obtain ⟨_, ⟨hv, _⟩ | ⟨g, cap, cur, hv, _, hc, _⟩⟩ := ho
  · rw [hv] at e
    cases e
  · rw [hv] at e
    obtain rfl : k = g := by simpa [Value.ownBlock] using e
    unfold tyOf
    rw [hc]
def Hi (B : Nat) (t : TypeId) (w : World) (P : World → Prop) : Prop := ∀ w', Agr B t w w' → P w'
theorem Hi.now {B : Nat} {t : TypeId} {w : World} {P : World → Prop} (h : Hi B t w P) : P w := h w (Agr.refl _ _ _)
theorem Hi.step {B : Nat} {t : TypeId} {w w' : World} {P : World → Prop} (h : Hi B t w P) (k : Agr B t w w') : Hi B t w' P := fun w'' k' => h w'' (k.trans k')
theorem Hi.mono {B B' : Nat} {t : TypeId} {w : World} {P : World → Prop} (h : Hi B' t w P) (hB : B ≤ B') : Hi B t w P := fun w' k => h w' (k.mono hB)
theorem Hi.imp {B : Nat} {t : TypeId} {w : World} {P Q : World → Prop} (h : Hi B t w P) (k : ∀ w', P w' → Q w') : Hi B t w Q := fun w' a => k w' (h w' a)
theorem Hi.of {B : Nat} {t : TypeId} {w : World} {P : Prop} (h : P) : Hi B t w (fun _ => P) := fun _ _ => h
theorem hi_row {B B0 e s n : Nat} {t : TypeId} {v : Value} {xs : List Value} {w : World} (ho : w.ownsRow B0 e s v n xs) (he : e ≠ t) (hB : B ≤ B0) : Hi B t w (fun w' => w'.ownsRow B0 e s v n xs) := by
  intro w' h
  obtain ⟨h1, h2⟩ := ho
  refine ⟨h1, ?_⟩
  rcases h2 with h2 | ⟨g, cap, cur, hv, hb, hc, hr⟩
  · exact .inl h2
  · refine .inr ⟨g, cap, cur, hv, hb, ?_, hr⟩
    rw [h.block g (by omega) (Array.getElem?_eq_some_iff.1 hc).1 (by unfold tyOf; rw [hc]; intro e2; exact he (Option.some.inj e2))]
    exact hc
theorem hi_ownB {B B0 : Nat} {t : TypeId} {v : Value} {l : List Int} {w : World} (h : OwnB w B0 v l) (ht : 5 ≠ t) (hB : B ≤ B0) : Hi B t w (fun w' => OwnB w' B0 v l) := hi_row h ht hB
theorem Hi.keep {B : Nat} {t : TypeId} {w w' : World} {P : World → Prop} (h : Hi B t w P) (hb : Below w.heap.size w w') : Hi B t w' P := h.step (Agr.of_below hb)
end Go.Proofs.YtffegkjlgeblbaaGreatDoor.Mdl
end
