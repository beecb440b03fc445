/- ModPSame, ModWB, ModWC, ModWR. -/
import Derived.Test.YtffegkjlgeblbaaGreatDoorPkModHi
import Derived.Test.YtffegkjlgeblbaaGreatDoorPkModSEImport
import Derived.Test.YtffegkjlgeblbaaGreatDoorPkModPF
import Derived.Test.YtffegkjlgeblbaaGreatDoorPkModWLPair
import Derived.Test.YtffegkjlgeblbaaGreatDoorPkModWLI
import Derived.Test.YtffegkjlgeblbaaGreatDoorPkModEq
section
/- Are two modules the same, by the program: walked. -/
namespace Go.Proofs.YtffegkjlgeblbaaGreatDoor.Mdl
open Go.RowKit Ints Typ Ins
set_option maxRecDepth 100000
set_option maxHeartbeats 4000000
set_option linter.unusedVariables false
theorem psame_core {w : World} (v0 v1 v2 v3 v4 v5 v6 v8 v9 v10 u0 u1 u2 u3 u4 u5 u6 u8 u9 u10 : Value) (s t : Int) {P0 P1 P2 P3 P4 P5 P6 P8 P9 P10 : Prop}
    (h0 : ∀ W, Below w.heap.size w W → Calls Tryz.prog 48 #[v0, u0, .func (.func 49) #[] #[]] W (SmTold P0 W))
    (h1 : ∀ W, Below w.heap.size w W → Calls Tryz.prog 50 #[v1, u1] W (SmTold P1 W))
    (h2 : ∀ W, Below w.heap.size w W → Calls Tryz.prog 51 #[v2, u2] W (SmTold P2 W))
    (h3 : ∀ W, Below w.heap.size w W → Calls Tryz.prog 52 #[v3, u3] W (SmTold P3 W))
    (h4 : ∀ W, Below w.heap.size w W → Calls Tryz.prog 52 #[v4, u4] W (SmTold P4 W))
    (h5 : ∀ W, Below w.heap.size w W → Calls Tryz.prog 53 #[v5, u5, .func (.func 54) #[] #[]] W (SmTold P5 W))
    (h6 : ∀ W, Below w.heap.size w W → Calls Tryz.prog 55 #[v6, u6] W (SmTold P6 W))
    (h8 : ∀ W, Below w.heap.size w W → Calls Tryz.prog 56 #[v8, u8, .func (.func 57) #[] #[]] W (SmTold P8 W))
    (h9 : ∀ W, Below w.heap.size w W → Calls Tryz.prog 58 #[v9, u9, .func (.func 59) #[] #[]] W (SmTold P9 W))
    (h10 : ∀ W, Below w.heap.size w W → Calls Tryz.prog 60 #[v10, u10, .func (.func 61) #[] #[]] W (SmTold P10 W))
    : Calls Tryz.prog 22 #[.agg #[v0, v1, v2, v3, v4, v5, v6, .int .i64 s, v8, v9, v10], .agg #[u0, u1, u2, u3, u4, u5, u6, .int .i64 t, u8, u9, u10]] w (SmTold (P0 ∧ P1 ∧ P2 ∧ P3 ∧ P4 ∧ P5 ∧ P6 ∧ s = t ∧ P8 ∧ P9 ∧ P10) w) := by
  have HB1 := Lib.hid ((Below.refl w.heap.size w).alloc (Nat.le_refl _) (.cells #[v0, v1, v2, v3, v4, v5, v6, .int .i64 s, v8, v9, v10] 34))
  have HB2 := Lib.hid (HB1.out.alloc HB1.out.size (.cells #[u0, u1, u2, u3, u4, u5, u6, .int .i64 t, u8, u9, u10] 34))
  obtain ⟨W0, hW0⟩ : ∃ W, w.alloc (.cells #[v0, v1, v2, v3, v4, v5, v6, .int .i64 s, v8, v9, v10] 34) = W := ⟨_, rfl⟩
  have HZ : Hid (W0.heap.size = w.heap.size + 1) := Lib.hid (by rw [← hW0]; simp)
  have HC0 : Hid (W0.heap[w.heap.size]? = some (.cells #[v0, v1, v2, v3, v4, v5, v6, .int .i64 s, v8, v9, v10] 34 (0, 0))) := Lib.hid (by rw [← hW0]; exact Sec.heap_new w _)
  rw [hW0] at HB2
  obtain ⟨W1, hW1⟩ : ∃ W, W0.alloc (.cells #[u0, u1, u2, u3, u4, u5, u6, .int .i64 t, u8, u9, u10] 34) = W := ⟨_, rfl⟩
  have HC1 : Hid (W1.heap[w.heap.size]? = some (.cells #[v0, v1, v2, v3, v4, v5, v6, .int .i64 s, v8, v9, v10] 34 (0, 0))) := Lib.hid (by rw [← hW1]; exact bx_keep HC0.out ((Below.refl _ _).alloc (Nat.le_refl _) _))
  have HC2 : Hid (W1.heap[w.heap.size + 1]? = some (.cells #[u0, u1, u2, u3, u4, u5, u6, .int .i64 t, u8, u9, u10] 34 (0, 0))) := Lib.hid (by rw [← hW1, ← HZ.out]; exact Sec.heap_new W0 _)
  rw [hW1] at HB2
  have HW0 := Lib.hid hW0
  have HW1 := Lib.hid hW1
  have HK0 := Lib.hid h0
  have HK1 := Lib.hid h1
  have HK2 := Lib.hid h2
  have HK3 := Lib.hid h3
  have HK4 := Lib.hid h4
  have HK5 := Lib.hid h5
  have HK6 := Lib.hid h6
  have HK8 := Lib.hid h8
  have HK9 := Lib.hid h9
  have HK10 := Lib.hid h10
  obtain ⟨PP, hPP⟩ : ∃ P : Prop, (P0 ∧ P1 ∧ P2 ∧ P3 ∧ P4 ∧ P5 ∧ P6 ∧ s = t ∧ P8 ∧ P9 ∧ P10) = P := ⟨_, rfl⟩
  have HPP := Lib.hid hPP
  rw [hPP]
  obtain ⟨bs, hbs⟩ : ∃ b, (s == t) = b := ⟨_, rfl⟩
  have HBS : Hid (bs = true ↔ s = t) := Lib.hid (by rw [← hbs]; simp)
  clear hPP hW0 hW1 h0 h1 h2 h3 h4 h5 h6 h8 h9 h10
  have x0 := (Sec.cells_at HC1.out 0).1
  have y0 := (Sec.cells_at HC2.out 0).1
  unfold SmTold at HK0 HK1 HK2 HK3 HK4 HK5 HK6 HK8 HK9 HK10
  go_enter Tryz.func22, Tryz.ntmps22
  go_wp2_with fail
  rw [HW0.out, HW1.out]
  refine (HK0.out W1 HB2.out).mono ?_
  rintro e w20 ⟨⟨r0, rfl, hr0⟩, hb0⟩
  have HR0 : Hid (r0 = true ↔ P0) := Lib.hid hr0
  have HX0 := Lib.hid (HB2.out.trans (hb0.mono HB2.out.size))
  have HCA0 := Lib.hid (bx_keep HC1.out hb0)
  have HCB0 := Lib.hid (bx_keep HC2.out hb0)
  clear hr0 hb0 x0 y0
  have x1 := (Sec.cells_at HCA0.out 1).1
  have y1 := (Sec.cells_at HCB0.out 1).1
  cases r0 with
  | false =>
    go_wp2_with fail
    exact bodyPost_ret (v := .bool false) (by simp [results, Tryz.results22, go_sem]) rfl ⟨⟨_, rfl, by rw [← HPP.out]; exact ⟨fun h => (by cases h), fun h => HR0.out.2 h.1⟩⟩, HX0.out⟩
  | true =>
    go_wp2_with fail
    refine (HK1.out w20 HX0.out).mono ?_
    rintro e w21 ⟨⟨r1, rfl, hr1⟩, hb1⟩
    have HR1 : Hid (r1 = true ↔ P1) := Lib.hid hr1
    have HX1 := Lib.hid (HX0.out.trans (hb1.mono HX0.out.size))
    have HCA1 := Lib.hid (bx_keep HCA0.out hb1)
    have HCB1 := Lib.hid (bx_keep HCB0.out hb1)
    clear hr1 hb1 x1 y1
    have x2 := (Sec.cells_at HCA1.out 2).1
    have y2 := (Sec.cells_at HCB1.out 2).1
    cases r1 with
    | false =>
      go_wp2_with fail
      exact bodyPost_ret (v := .bool false) (by simp [results, Tryz.results22, go_sem]) rfl ⟨⟨_, rfl, by rw [← HPP.out]; exact ⟨fun h => (by cases h), fun h => HR1.out.2 h.2.1⟩⟩, HX1.out⟩
    | true =>
      go_wp2_with fail
      refine (HK2.out w21 HX1.out).mono ?_
      rintro e w22 ⟨⟨r2, rfl, hr2⟩, hb2⟩
      have HR2 : Hid (r2 = true ↔ P2) := Lib.hid hr2
      have HX2 := Lib.hid (HX1.out.trans (hb2.mono HX1.out.size))
      have HCA2 := Lib.hid (bx_keep HCA1.out hb2)
      have HCB2 := Lib.hid (bx_keep HCB1.out hb2)
      clear hr2 hb2 x2 y2
      have x3 := (Sec.cells_at HCA2.out 3).1
      have y3 := (Sec.cells_at HCB2.out 3).1
      cases r2 with
      | false =>
        go_wp2_with fail
        exact bodyPost_ret (v := .bool false) (by simp [results, Tryz.results22, go_sem]) rfl ⟨⟨_, rfl, by rw [← HPP.out]; exact ⟨fun h => (by cases h), fun h => HR2.out.2 h.2.2.1⟩⟩, HX2.out⟩
      | true =>
        go_wp2_with fail
        refine (HK3.out w22 HX2.out).mono ?_
        rintro e w23 ⟨⟨r3, rfl, hr3⟩, hb3⟩
        have HR3 : Hid (r3 = true ↔ P3) := Lib.hid hr3
        have HX3 := Lib.hid (HX2.out.trans (hb3.mono HX2.out.size))
        have HCA3 := Lib.hid (bx_keep HCA2.out hb3)
        have HCB3 := Lib.hid (bx_keep HCB2.out hb3)
        clear hr3 hb3 x3 y3
        have x4 := (Sec.cells_at HCA3.out 4).1
        have y4 := (Sec.cells_at HCB3.out 4).1
        cases r3 with
        | false =>
          go_wp2_with fail
          exact bodyPost_ret (v := .bool false) (by simp [results, Tryz.results22, go_sem]) rfl ⟨⟨_, rfl, by rw [← HPP.out]; exact ⟨fun h => (by cases h), fun h => HR3.out.2 h.2.2.2.1⟩⟩, HX3.out⟩
        | true =>
          go_wp2_with fail
          refine (HK4.out w23 HX3.out).mono ?_
          rintro e w24 ⟨⟨r4, rfl, hr4⟩, hb4⟩
          have HR4 : Hid (r4 = true ↔ P4) := Lib.hid hr4
          have HX4 := Lib.hid (HX3.out.trans (hb4.mono HX3.out.size))
          have HCA4 := Lib.hid (bx_keep HCA3.out hb4)
          have HCB4 := Lib.hid (bx_keep HCB3.out hb4)
          clear hr4 hb4 x4 y4
          have x5 := (Sec.cells_at HCA4.out 5).1
          have y5 := (Sec.cells_at HCB4.out 5).1
          cases r4 with
          | false =>
            go_wp2_with fail
            exact bodyPost_ret (v := .bool false) (by simp [results, Tryz.results22, go_sem]) rfl ⟨⟨_, rfl, by rw [← HPP.out]; exact ⟨fun h => (by cases h), fun h => HR4.out.2 h.2.2.2.2.1⟩⟩, HX4.out⟩
          | true =>
            go_wp2_with fail
            refine (HK5.out w24 HX4.out).mono ?_
            rintro e w25 ⟨⟨r5, rfl, hr5⟩, hb5⟩
            have HR5 : Hid (r5 = true ↔ P5) := Lib.hid hr5
            have HX5 := Lib.hid (HX4.out.trans (hb5.mono HX4.out.size))
            have HCA5 := Lib.hid (bx_keep HCA4.out hb5)
            have HCB5 := Lib.hid (bx_keep HCB4.out hb5)
            clear hr5 hb5 x5 y5
            have x6 := (Sec.cells_at HCA5.out 6).1
            have y6 := (Sec.cells_at HCB5.out 6).1
            cases r5 with
            | false =>
              go_wp2_with fail
              exact bodyPost_ret (v := .bool false) (by simp [results, Tryz.results22, go_sem]) rfl ⟨⟨_, rfl, by rw [← HPP.out]; exact ⟨fun h => (by cases h), fun h => HR5.out.2 h.2.2.2.2.2.1⟩⟩, HX5.out⟩
            | true =>
              go_wp2_with fail
              refine (HK6.out w25 HX5.out).mono ?_
              rintro e w26 ⟨⟨r6, rfl, hr6⟩, hb6⟩
              have HR6 : Hid (r6 = true ↔ P6) := Lib.hid hr6
              have HX6 := Lib.hid (HX5.out.trans (hb6.mono HX5.out.size))
              have HCA6 := Lib.hid (bx_keep HCA5.out hb6)
              have HCB6 := Lib.hid (bx_keep HCB5.out hb6)
              clear hr6 hb6 x6 y6
              have x7 := (Sec.cells_at HCA6.out 7).1
              have y7 := (Sec.cells_at HCB6.out 7).1
              have x8 := (Sec.cells_at HCA6.out 8).1
              have y8 := (Sec.cells_at HCB6.out 8).1
              cases r6 with
              | false =>
                go_wp2_with fail
                exact bodyPost_ret (v := .bool false) (by simp [results, Tryz.results22, go_sem]) rfl ⟨⟨_, rfl, by rw [← HPP.out]; exact ⟨fun h => (by cases h), fun h => HR6.out.2 h.2.2.2.2.2.2.1⟩⟩, HX6.out⟩
              | true =>
                cases bs with
                | false =>
                  go_wp2_with fail
                  exact bodyPost_ret (v := .bool false) (by simp [results, Tryz.results22, go_sem]) rfl ⟨⟨_, rfl, by rw [← HPP.out]; exact ⟨fun h => (by cases h), fun h => HBS.out.2 h.2.2.2.2.2.2.2.1⟩⟩, HX6.out⟩
                | true =>
                  go_wp2_with fail
                  refine (HK8.out w26 HX6.out).mono ?_
                  rintro e w28 ⟨⟨r8, rfl, hr8⟩, hb8⟩
                  have HR8 : Hid (r8 = true ↔ P8) := Lib.hid hr8
                  have HX8 := Lib.hid (HX6.out.trans (hb8.mono HX6.out.size))
                  have HCA8 := Lib.hid (bx_keep HCA6.out hb8)
                  have HCB8 := Lib.hid (bx_keep HCB6.out hb8)
                  clear hr8 hb8 x7 y7 x8 y8
                  have x9 := (Sec.cells_at HCA8.out 9).1
                  have y9 := (Sec.cells_at HCB8.out 9).1
                  cases r8 with
                  | false =>
                    go_wp2_with fail
                    exact bodyPost_ret (v := .bool false) (by simp [results, Tryz.results22, go_sem]) rfl ⟨⟨_, rfl, by rw [← HPP.out]; exact ⟨fun h => (by cases h), fun h => HR8.out.2 h.2.2.2.2.2.2.2.2.1⟩⟩, HX8.out⟩
                  | true =>
                    go_wp2_with fail
                    refine (HK9.out w28 HX8.out).mono ?_
                    rintro e w29 ⟨⟨r9, rfl, hr9⟩, hb9⟩
                    have HR9 : Hid (r9 = true ↔ P9) := Lib.hid hr9
                    have HX9 := Lib.hid (HX8.out.trans (hb9.mono HX8.out.size))
                    have HCA9 := Lib.hid (bx_keep HCA8.out hb9)
                    have HCB9 := Lib.hid (bx_keep HCB8.out hb9)
                    clear hr9 hb9 x9 y9
                    have x10 := (Sec.cells_at HCA9.out 10).1
                    have y10 := (Sec.cells_at HCB9.out 10).1
                    cases r9 with
                    | false =>
                      go_wp2_with fail
                      exact bodyPost_ret (v := .bool false) (by simp [results, Tryz.results22, go_sem]) rfl ⟨⟨_, rfl, by rw [← HPP.out]; exact ⟨fun h => (by cases h), fun h => HR9.out.2 h.2.2.2.2.2.2.2.2.2.1⟩⟩, HX9.out⟩
                    | true =>
                      go_wp2_with fail
                      refine (HK10.out w29 HX9.out).mono ?_
                      rintro e w30 ⟨⟨r10, rfl, hr10⟩, hb10⟩
                      have HR10 : Hid (r10 = true ↔ P10) := Lib.hid hr10
                      have HX10 := Lib.hid (HX9.out.trans (hb10.mono HX9.out.size))
                      have HCA10 := Lib.hid (bx_keep HCA9.out hb10)
                      have HCB10 := Lib.hid (bx_keep HCB9.out hb10)
                      clear hr10 hb10 x10 y10
                      cases r10 with
                      | false =>
                        go_wp2_with fail
                        exact bodyPost_ret (v := .bool false) (by simp [results, Tryz.results22, go_sem]) rfl ⟨⟨_, rfl, by rw [← HPP.out]; exact ⟨fun h => (by cases h), fun h => HR10.out.2 h.2.2.2.2.2.2.2.2.2.2⟩⟩, HX10.out⟩
                      | true =>
                        go_wp2_with fail
                        exact bodyPost_ret (v := .bool true) (by simp [results, Tryz.results22, go_sem]) rfl ⟨⟨_, rfl, by rw [← HPP.out]; exact ⟨fun _ => ⟨HR0.out.1 (by trivial), HR1.out.1 (by trivial), HR2.out.1 (by trivial), HR3.out.1 (by trivial), HR4.out.1 (by trivial), HR5.out.1 (by trivial), HR6.out.1 (by trivial), HBS.out.1 (by trivial), HR8.out.1 (by trivial), HR9.out.1 (by trivial), HR10.out.1 (by trivial)⟩, fun _ => rfl⟩⟩, HX10.out⟩
structure Cmp (m : ModT) : Prop where
  types : m.types.length ≤ 100000
  imps : m.imps.length ≤ 100000
  tabs : m.tabs.length ≤ 100000
  mems : m.mems.length ≤ 100000
  globs : m.globs.length ≤ 100000
  exps : m.exps.length ≤ 100000
  elems : m.elems.length ≤ 100000
  codes : m.codes.length ≤ 100000 ∧ ∀ p ∈ m.codes, p.2.1.length ≤ 80000
  datas : m.datas.length ≤ 100000
theorem psame8_any {a b : ModT} {u v : Value} {w : World} (hc : Cmp a) (ha : ModAt w u a) (hb : ModAt w v b) : Calls Tryz.prog 22 #[u, v] w (SmTold (plainM a = plainM b) w) := by
  obtain ⟨vt, vi, vf, va, vm, vg, vx, ve, vc, vd, rfl, r1, r2, r3, r4, r5, r6, r7, r8, r9, r10, r11⟩ := ha
  obtain ⟨ut, ui, uf, ua, um, ug, ux, ue, uc, ud, rfl, s1, s2, s3, s4, s5, s6, s7, s8, s9, s10, s11⟩ := hb
  refine (psame_core vt vi vf va vm vg vx ve vc vd ut ui uf ua um ug ux ue uc ud a.start b.start
    (fun W hb => peq_FuncType hc.types (r1.keep hb) (s1.keep hb) (fun W' p q _ _ _ hp hq => psm_fun hp hq))
    (fun W hb => peqs_Import hc.imps (r2.keep hb) (s2.keep hb))
    (fun W hb => (equal_any (r3.keep hb) (s3.keep hb)).mono fun en w' h => (show SmTold (a.funcs = b.funcs) W en w' from ⟨⟨_, h.1, decide_eq_true_iff⟩, h.2⟩))
    (fun W hb => peqs_Limits hc.tabs (r4.keep hb) (s4.keep hb))
    (fun W hb => peqs_Limits hc.mems (r5.keep hb) (s5.keep hb))
    (fun W hb => peq_GlobalDef hc.globs (r6.keep hb) (s6.keep hb) (fun W' p q _ _ _ hp hq => psm_glb hp hq))
    (fun W hb => peqs_Export hc.exps (r7.keep hb) (s7.keep hb))
    (fun W hb => peq_Elem hc.elems (r9.keep hb) (s9.keep hb) (fun W' p q _ _ _ hp hq => psm_elm hp hq))
    (fun W hb => peq_Code hc.codes.1 (r10.keep hb) (s10.keep hb) (fun W' p q _ h1 _ hp hq => psm_cod (hc.codes.2 p h1) hp hq))
    (fun W hb => peq_Data hc.datas (r11.keep hb) (s11.keep hb) (fun W' p q _ _ _ hp hq => psm_dat hp hq))).mono fun en w' h => ?_
  obtain ⟨⟨r, e, hr⟩, hb⟩ := h
  refine ⟨⟨r, e, hr.trans ⟨fun h => ?_, fun h => ?_⟩⟩, hb⟩
  · obtain ⟨e0, e1, e2, e3, e4, e5, e6, e7, e8, e9, e10⟩ := h
    unfold plainM
    rw [e0, e1, e2, e3, e4, e5, e6, e7, e8, e9, e10]
  · exact ⟨congrArg PMod.types h, congrArg PMod.imps h, congrArg PMod.funcs h, congrArg PMod.tabs h, congrArg PMod.mems h, congrArg PMod.globs h, congrArg PMod.exps h, congrArg PMod.start h, congrArg PMod.elems h, congrArg PMod.codes h, congrArg PMod.datas h⟩
end Go.Proofs.YtffegkjlgeblbaaGreatDoor.Mdl
end

section
/- The program's writer: exports, globals: walked. -/
namespace Go.Proofs.YtffegkjlgeblbaaGreatDoor.Mdl
open Go.RowKit Ints Typ Ins
set_option maxRecDepth 100000
set_option maxHeartbeats 4000000
set_option linter.unusedVariables false
theorem wexport {w : World} {g : Nat} {b : List Int} {bad : Bool} (s : ByteArray) (k i : Int) (hz : s.size ≤ 1000) (h : WS w g b bad) :
    Calls Tryz.prog 156 #[.pointer (some ⟨g, 0, none⟩), .agg #[.string s, .int .i64 k, .int .i64 i]] w (WTold g b bad (okN s && okK k && okU i) (nmB s ++ Leb.uB k.toNat ++ Leb.uB i.toNat) w) := by
  have HZ := Lib.hid hz
  clear hz
  have HA := Lib.hid ((Below.refl w.heap.size w).alloc (Nat.le_refl _) (.cells #[.string s, .int .i64 k, .int .i64 i] 97))
  have HC : Hid ((w.alloc (.cells #[.string s, .int .i64 k, .int .i64 i] 97)).heap[w.heap.size]? = some (.cells #[.string s, .int .i64 k, .int .i64 i] 97 (0, 0))) := Lib.hid (Sec.heap_new w _)
  obtain ⟨W0, hW0⟩ : ∃ W, w.alloc (.cells #[.string s, .int .i64 k, .int .i64 i] 97) = W := ⟨_, rfl⟩
  have HW0 := Lib.hid hW0
  rw [hW0] at HA HC
  have HS := Lib.hid (h.keep HA.out)
  have HGW : Hid (w.heap.size ≠ g) := Lib.hid (by have := h.lt; omega)
  have HF := Lib.hid (WFr.of_below HA.out h.lt)
  clear h hW0
  go_enter Tryz.func156, Tryz.ntmps156
  go_wp2_with fail
  rw [HW0.out]
  refine (wname s HZ.out HS.out).mono ?_
  rintro en w1 ⟨b1, bad1, rfl, hs1, hp1, hf1⟩
  have HP1 := Lib.hid (hp1)
  have HF1 := Lib.hid (HF.out.trans hf1)
  have HS1 := Lib.hid hs1
  have HC1 : Hid (w1.heap[w.heap.size]? = some (.cells #[.string s, .int .i64 k, .int .i64 i] 97 (0, 0))) := Lib.hid (hf1.block HC.out HGW.out (by decide))
  have c0 := (Sec.cells_at HC1.out 0).1
  have c1 := (Sec.cells_at HC1.out 1).1
  have c2 := (Sec.cells_at HC1.out 2).1
  clear hp1 hf1 hs1
  go_wp2_with fail
  refine (wkind k HS1.out).mono ?_
  rintro en w2 ⟨b2, bad2, rfl, hs2, hp2, hf2⟩
  have HP2 := Lib.hid (HP1.out.trans hp2)
  have HF2 := Lib.hid (HF1.out.trans hf2)
  have HS2 := Lib.hid hs2
  have HC2 : Hid (w2.heap[w.heap.size]? = some (.cells #[.string s, .int .i64 k, .int .i64 i] 97 (0, 0))) := Lib.hid (hf2.block HC1.out HGW.out (by decide))
  clear c0
  clear c1
  clear c2
  have c0 := (Sec.cells_at HC2.out 0).1
  have c1 := (Sec.cells_at HC2.out 1).1
  have c2 := (Sec.cells_at HC2.out 2).1
  clear hp2 hf2 hs2
  go_wp2_with fail
  refine (wnumA i HS2.out).mono ?_
  rintro en w3 hq
  have HE := Lib.hid (WTold.next HP2.out HF2.out hq)
  obtain ⟨b', bad', rfl, _, _, _⟩ := hq
  go_wp2_with fail
  exact bodyPost_end (v := .tuple #[]) (by simp [results, Tryz.results156, go_sem]) rfl HE.out
theorem wglobal {w0 w : World} {g : Nat} {b : List Int} {bad : Bool} {x : Ins} {o : Value} (v : Int) (m : Bool) (hT : KTab w0) (hTg : 1 < w0.heap.size) (hi : InOk w0 (x, o)) (hb : Below w0.heap.size w0 w) (hg : w0.heap.size ≤ g) (h : WS w g b bad) :
    Calls Tryz.prog 154 #[.pointer (some ⟨g, 0, none⟩), .agg #[.int .u8 v, .bool m, .int .i64 x.op, .int .i64 x.A, .int .i64 x.B, .int .u64 x.K, o]] w (WTold g b bad (isV v && true && okX x) ([v] ++ flB m ++ (ib x ++ [11])) w) := by
  obtain ⟨⟨A0, k0, e0, hjunk⟩, hu0⟩ := id hi
  simp only at e0
  subst e0
  clear hjunk hu0
  have HI := Lib.hid hi
  have HT := Lib.hid hT
  have HTG := Lib.hid hTg
  clear hi hT hTg
  have HA := Lib.hid ((Below.refl w.heap.size w).alloc (Nat.le_refl _) (.cells #[.int .u8 v, .bool m, .int .i64 x.op, .int .i64 x.A, .int .i64 x.B, .int .u64 x.K, .slice A0 x.L.length k0] 69))
  have HC : Hid ((w.alloc (.cells #[.int .u8 v, .bool m, .int .i64 x.op, .int .i64 x.A, .int .i64 x.B, .int .u64 x.K, .slice A0 x.L.length k0] 69)).heap[w.heap.size]? = some (.cells #[.int .u8 v, .bool m, .int .i64 x.op, .int .i64 x.A, .int .i64 x.B, .int .u64 x.K, .slice A0 x.L.length k0] 69 (0, 0))) := Lib.hid (Sec.heap_new w _)
  obtain ⟨W0, hW0⟩ : ∃ W, w.alloc (.cells #[.int .u8 v, .bool m, .int .i64 x.op, .int .i64 x.A, .int .i64 x.B, .int .u64 x.K, .slice A0 x.L.length k0] 69) = W := ⟨_, rfl⟩
  have HW0 := Lib.hid hW0
  rw [hW0] at HA HC
  have HS := Lib.hid (h.keep HA.out)
  have HGW : Hid (w.heap.size ≠ g) := Lib.hid (by have := h.lt; omega)
  have HF := Lib.hid (WFr.of_below HA.out h.lt)
  have HG := Lib.hid hg
  have HBW := Lib.hid hb
  have HB0 : Hid (Below w0.heap.size w0 W0) := Lib.hid (HBW.out.trans (HF.out.below.mono HG.out))
  clear h hW0 hg hb
  go_enter Tryz.func154, Tryz.ntmps154
  go_wp2_with fail
  rw [HW0.out]
  refine (wval v HS.out).mono ?_
  rintro en w1 ⟨b1, bad1, rfl, hs1, hp1, hf1⟩
  have HP1 := Lib.hid (hp1)
  have HF1 := Lib.hid (HF.out.trans hf1)
  have HS1 := Lib.hid hs1
  have HC1 : Hid (w1.heap[w.heap.size]? = some (.cells #[.int .u8 v, .bool m, .int .i64 x.op, .int .i64 x.A, .int .i64 x.B, .int .u64 x.K, .slice A0 x.L.length k0] 69 (0, 0))) := Lib.hid (hf1.block HC.out HGW.out (by decide))
  have HB1 : Hid (Below w0.heap.size w0 w1) := Lib.hid (HBW.out.trans (HF1.out.below.mono HG.out))
  have c0 := (Sec.cells_at HC1.out 0).1
  have c1 := (Sec.cells_at HC1.out 1).1
  have c2 := (Sec.cells_at HC1.out 2).1
  have c3 := (Sec.cells_at HC1.out 3).1
  have c4 := (Sec.cells_at HC1.out 4).1
  have c5 := (Sec.cells_at HC1.out 5).1
  have c6 := (Sec.cells_at HC1.out 6).1
  clear hp1 hf1 hs1
  go_wp2_with fail
  refine (wflag m HS1.out).mono ?_
  rintro en w2 ⟨b2, bad2, rfl, hs2, hp2, hf2⟩
  have HP2 := Lib.hid (HP1.out.trans hp2)
  have HF2 := Lib.hid (HF1.out.trans hf2)
  have HS2 := Lib.hid hs2
  have HC2 : Hid (w2.heap[w.heap.size]? = some (.cells #[.int .u8 v, .bool m, .int .i64 x.op, .int .i64 x.A, .int .i64 x.B, .int .u64 x.K, .slice A0 x.L.length k0] 69 (0, 0))) := Lib.hid (hf2.block HC1.out HGW.out (by decide))
  have HB2 : Hid (Below w0.heap.size w0 w2) := Lib.hid (HBW.out.trans (HF2.out.below.mono HG.out))
  clear c0
  clear c1
  clear c2
  clear c3
  clear c4
  clear c5
  clear c6
  have c0 := (Sec.cells_at HC2.out 0).1
  have c1 := (Sec.cells_at HC2.out 1).1
  have c2 := (Sec.cells_at HC2.out 2).1
  have c3 := (Sec.cells_at HC2.out 3).1
  have c4 := (Sec.cells_at HC2.out 4).1
  have c5 := (Sec.cells_at HC2.out 5).1
  have c6 := (Sec.cells_at HC2.out 6).1
  clear hp2 hf2 hs2
  go_wp2_with fail
  refine (wexpr HT.out HTG.out HI.out HB2.out HG.out HS2.out).mono ?_
  rintro en w3 hq
  have HE := Lib.hid (WTold.next HP2.out HF2.out hq)
  obtain ⟨b', bad', rfl, _, _, _⟩ := hq
  go_wp2_with fail
  exact bodyPost_end (v := .tuple #[]) (by simp [results, Tryz.results154, go_sem]) rfl HE.out
end Go.Proofs.YtffegkjlgeblbaaGreatDoor.Mdl
end

section
/- The program's writer: elements, data: walked. -/
namespace Go.Proofs.YtffegkjlgeblbaaGreatDoor.Mdl
open Go.RowKit Ints Typ Ins
set_option maxRecDepth 100000
set_option maxHeartbeats 4000000
set_option linter.unusedVariables false
theorem welem {w0 w : World} {g : Nat} {b : List Int} {bad : Bool} {x : Ins} {o u : Value} {L : List Int} (hT : KTab w0) (hTg : 1 < w0.heap.size) (hi : InOk w0 (x, o)) (hl : SlI w0 u L) (hn : L.length ≤ 100000) (hb : Below w0.heap.size w0 w) (hg : w0.heap.size ≤ g) (h : WS w g b bad) :
    Calls Tryz.prog 159 #[.pointer (some ⟨g, 0, none⟩), .agg #[.int .i64 x.op, .int .i64 x.A, .int .i64 x.B, .int .u64 x.K, o, u]] w (WTold g b bad (okU 0 && okX x && (decide ((L.length : Int) ≤ 256) && L.all okU)) (Leb.uB (0 : Int).toNat ++ (ib x ++ [11]) ++ (Leb.uB L.length ++ L.flatMap numB)) w) := by
  obtain ⟨⟨A0, k0, e0, hjunk⟩, hu0⟩ := id hi
  simp only at e0
  subst e0
  clear hjunk hu0
  have HI := Lib.hid hi
  have HT := Lib.hid hT
  have HTG := Lib.hid hTg
  clear hi hT hTg
  obtain ⟨A1, k1, e1, hjunk⟩ := id hl
  subst e1
  clear hjunk
  have HL := Lib.hid hl
  have HLN := Lib.hid hn
  clear hl hn
  have HA := Lib.hid ((Below.refl w.heap.size w).alloc (Nat.le_refl _) (.cells #[.int .i64 x.op, .int .i64 x.A, .int .i64 x.B, .int .u64 x.K, .slice A0 x.L.length k0, .slice A1 L.length k1] 87))
  have HC : Hid ((w.alloc (.cells #[.int .i64 x.op, .int .i64 x.A, .int .i64 x.B, .int .u64 x.K, .slice A0 x.L.length k0, .slice A1 L.length k1] 87)).heap[w.heap.size]? = some (.cells #[.int .i64 x.op, .int .i64 x.A, .int .i64 x.B, .int .u64 x.K, .slice A0 x.L.length k0, .slice A1 L.length k1] 87 (0, 0))) := Lib.hid (Sec.heap_new w _)
  obtain ⟨W0, hW0⟩ : ∃ W, w.alloc (.cells #[.int .i64 x.op, .int .i64 x.A, .int .i64 x.B, .int .u64 x.K, .slice A0 x.L.length k0, .slice A1 L.length k1] 87) = W := ⟨_, rfl⟩
  have HW0 := Lib.hid hW0
  rw [hW0] at HA HC
  have HS := Lib.hid (h.keep HA.out)
  have HGW : Hid (w.heap.size ≠ g) := Lib.hid (by have := h.lt; omega)
  have HF := Lib.hid (WFr.of_below HA.out h.lt)
  have HG := Lib.hid hg
  have HBW := Lib.hid hb
  have HB0 : Hid (Below w0.heap.size w0 W0) := Lib.hid (HBW.out.trans (HF.out.below.mono HG.out))
  clear h hW0 hg hb
  go_enter Tryz.func159, Tryz.ntmps159
  go_wp2_with fail
  rw [HW0.out]
  refine (wnumA 0 HS.out).mono ?_
  rintro en w1 ⟨b1, bad1, rfl, hs1, hp1, hf1⟩
  have HP1 := Lib.hid (hp1)
  have HF1 := Lib.hid (HF.out.trans hf1)
  have HS1 := Lib.hid hs1
  have HC1 : Hid (w1.heap[w.heap.size]? = some (.cells #[.int .i64 x.op, .int .i64 x.A, .int .i64 x.B, .int .u64 x.K, .slice A0 x.L.length k0, .slice A1 L.length k1] 87 (0, 0))) := Lib.hid (hf1.block HC.out HGW.out (by decide))
  have HB1 : Hid (Below w0.heap.size w0 w1) := Lib.hid (HBW.out.trans (HF1.out.below.mono HG.out))
  have c0 := (Sec.cells_at HC1.out 0).1
  have c1 := (Sec.cells_at HC1.out 1).1
  have c2 := (Sec.cells_at HC1.out 2).1
  have c3 := (Sec.cells_at HC1.out 3).1
  have c4 := (Sec.cells_at HC1.out 4).1
  have c5 := (Sec.cells_at HC1.out 5).1
  clear hp1 hf1 hs1
  go_wp2_with fail
  refine (wexpr HT.out HTG.out HI.out HB1.out HG.out HS1.out).mono ?_
  rintro en w2 ⟨b2, bad2, rfl, hs2, hp2, hf2⟩
  have HP2 := Lib.hid (HP1.out.trans hp2)
  have HF2 := Lib.hid (HF1.out.trans hf2)
  have HS2 := Lib.hid hs2
  have HC2 : Hid (w2.heap[w.heap.size]? = some (.cells #[.int .i64 x.op, .int .i64 x.A, .int .i64 x.B, .int .u64 x.K, .slice A0 x.L.length k0, .slice A1 L.length k1] 87 (0, 0))) := Lib.hid (hf2.block HC1.out HGW.out (by decide))
  have HB2 : Hid (Below w0.heap.size w0 w2) := Lib.hid (HBW.out.trans (HF2.out.below.mono HG.out))
  clear c0
  clear c1
  clear c2
  clear c3
  clear c4
  clear c5
  have c0 := (Sec.cells_at HC2.out 0).1
  have c1 := (Sec.cells_at HC2.out 1).1
  have c2 := (Sec.cells_at HC2.out 2).1
  have c3 := (Sec.cells_at HC2.out 3).1
  have c4 := (Sec.cells_at HC2.out 4).1
  have c5 := (Sec.cells_at HC2.out 5).1
  clear hp2 hf2 hs2
  go_wp2_with fail
  refine (wlist_int 256 HS2.out HL.out HB2.out HG.out HLN.out).mono ?_
  rintro en w3 hq
  have HE := Lib.hid (WTold.next HP2.out HF2.out hq)
  obtain ⟨b', bad', rfl, _, _, _⟩ := hq
  go_wp2_with fail
  exact bodyPost_end (v := .tuple #[]) (by simp [results, Tryz.results159, go_sem]) rfl HE.out
theorem wdata {w0 w : World} {g : Nat} {b : List Int} {bad : Bool} {x : Ins} {o u : Value} {L : List Int} (hT : KTab w0) (hTg : 1 < w0.heap.size) (hi : InOk w0 (x, o)) (hl : Sl w0 u L) (hn : L.length ≤ 1000000) (hb : Below w0.heap.size w0 w) (hg : w0.heap.size ≤ g) (h : WS w g b bad) :
    Calls Tryz.prog 163 #[.pointer (some ⟨g, 0, none⟩), .agg #[.int .i64 x.op, .int .i64 x.A, .int .i64 x.B, .int .u64 x.K, o, u]] w (WTold g b bad (okU 0 && okX x && okU (L.length : Int) && true) (Leb.uB (0 : Int).toNat ++ (ib x ++ [11]) ++ Leb.uB (L.length : Int).toNat ++ L) w) := by
  obtain ⟨⟨A0, k0, e0, hjunk⟩, hu0⟩ := id hi
  simp only at e0
  subst e0
  clear hjunk hu0
  have HI := Lib.hid hi
  have HT := Lib.hid hT
  have HTG := Lib.hid hTg
  clear hi hT hTg
  obtain ⟨A1, k1, e1, hjunk⟩ := id hl
  subst e1
  clear hjunk
  have HL := Lib.hid hl
  have HLN := Lib.hid hn
  clear hl hn
  have HA := Lib.hid ((Below.refl w.heap.size w).alloc (Nat.le_refl _) (.cells #[.int .i64 x.op, .int .i64 x.A, .int .i64 x.B, .int .u64 x.K, .slice A0 x.L.length k0, .slice A1 L.length k1] 93))
  have HC : Hid ((w.alloc (.cells #[.int .i64 x.op, .int .i64 x.A, .int .i64 x.B, .int .u64 x.K, .slice A0 x.L.length k0, .slice A1 L.length k1] 93)).heap[w.heap.size]? = some (.cells #[.int .i64 x.op, .int .i64 x.A, .int .i64 x.B, .int .u64 x.K, .slice A0 x.L.length k0, .slice A1 L.length k1] 93 (0, 0))) := Lib.hid (Sec.heap_new w _)
  obtain ⟨W0, hW0⟩ : ∃ W, w.alloc (.cells #[.int .i64 x.op, .int .i64 x.A, .int .i64 x.B, .int .u64 x.K, .slice A0 x.L.length k0, .slice A1 L.length k1] 93) = W := ⟨_, rfl⟩
  have HW0 := Lib.hid hW0
  rw [hW0] at HA HC
  have HS := Lib.hid (h.keep HA.out)
  have HGW : Hid (w.heap.size ≠ g) := Lib.hid (by have := h.lt; omega)
  have HF := Lib.hid (WFr.of_below HA.out h.lt)
  have HG := Lib.hid hg
  have HBW := Lib.hid hb
  have HB0 : Hid (Below w0.heap.size w0 W0) := Lib.hid (HBW.out.trans (HF.out.below.mono HG.out))
  clear h hW0 hg hb
  go_enter Tryz.func163, Tryz.ntmps163
  go_wp2_with fail
  rw [HW0.out]
  refine (wnumA 0 HS.out).mono ?_
  rintro en w1 ⟨b1, bad1, rfl, hs1, hp1, hf1⟩
  have HP1 := Lib.hid (hp1)
  have HF1 := Lib.hid (HF.out.trans hf1)
  have HS1 := Lib.hid hs1
  have HC1 : Hid (w1.heap[w.heap.size]? = some (.cells #[.int .i64 x.op, .int .i64 x.A, .int .i64 x.B, .int .u64 x.K, .slice A0 x.L.length k0, .slice A1 L.length k1] 93 (0, 0))) := Lib.hid (hf1.block HC.out HGW.out (by decide))
  have HB1 : Hid (Below w0.heap.size w0 w1) := Lib.hid (HBW.out.trans (HF1.out.below.mono HG.out))
  have c0 := (Sec.cells_at HC1.out 0).1
  have c1 := (Sec.cells_at HC1.out 1).1
  have c2 := (Sec.cells_at HC1.out 2).1
  have c3 := (Sec.cells_at HC1.out 3).1
  have c4 := (Sec.cells_at HC1.out 4).1
  have c5 := (Sec.cells_at HC1.out 5).1
  clear hp1 hf1 hs1
  go_wp2_with fail
  refine (wexpr HT.out HTG.out HI.out HB1.out HG.out HS1.out).mono ?_
  rintro en w2 ⟨b2, bad2, rfl, hs2, hp2, hf2⟩
  have HP2 := Lib.hid (HP1.out.trans hp2)
  have HF2 := Lib.hid (HF1.out.trans hf2)
  have HS2 := Lib.hid hs2
  have HC2 : Hid (w2.heap[w.heap.size]? = some (.cells #[.int .i64 x.op, .int .i64 x.A, .int .i64 x.B, .int .u64 x.K, .slice A0 x.L.length k0, .slice A1 L.length k1] 93 (0, 0))) := Lib.hid (hf2.block HC1.out HGW.out (by decide))
  have HB2 : Hid (Below w0.heap.size w0 w2) := Lib.hid (HBW.out.trans (HF2.out.below.mono HG.out))
  clear c0
  clear c1
  clear c2
  clear c3
  clear c4
  clear c5
  have c0 := (Sec.cells_at HC2.out 0).1
  have c1 := (Sec.cells_at HC2.out 1).1
  have c2 := (Sec.cells_at HC2.out 2).1
  have c3 := (Sec.cells_at HC2.out 3).1
  have c4 := (Sec.cells_at HC2.out 4).1
  have c5 := (Sec.cells_at HC2.out 5).1
  clear hp2 hf2 hs2
  go_wp2_with fail
  refine (wnumA (L.length : Int) HS2.out).mono ?_
  rintro en w3 ⟨b3, bad3, rfl, hs3, hp3, hf3⟩
  have HP3 := Lib.hid (HP2.out.trans hp3)
  have HF3 := Lib.hid (HF2.out.trans hf3)
  have HS3 := Lib.hid hs3
  have HC3 : Hid (w3.heap[w.heap.size]? = some (.cells #[.int .i64 x.op, .int .i64 x.A, .int .i64 x.B, .int .u64 x.K, .slice A0 x.L.length k0, .slice A1 L.length k1] 93 (0, 0))) := Lib.hid (hf3.block HC2.out HGW.out (by decide))
  have HB3 : Hid (Below w0.heap.size w0 w3) := Lib.hid (HBW.out.trans (HF3.out.below.mono HG.out))
  clear c0
  clear c1
  clear c2
  clear c3
  clear c4
  clear c5
  have c0 := (Sec.cells_at HC3.out 0).1
  have c1 := (Sec.cells_at HC3.out 1).1
  have c2 := (Sec.cells_at HC3.out 2).1
  have c3 := (Sec.cells_at HC3.out 3).1
  have c4 := (Sec.cells_at HC3.out 4).1
  have c5 := (Sec.cells_at HC3.out 5).1
  clear hp3 hf3 hs3
  go_wp2_with fail
  refine (wput 0 HS3.out (HL.out.keep HB3.out) HLN.out).mono ?_
  rintro en w4 hq
  have HE := Lib.hid (WTold.next HP3.out HF3.out hq)
  obtain ⟨b', bad', rfl, _, _, _⟩ := hq
  go_wp2_with fail
  exact bodyPost_end (v := .tuple #[]) (by simp [results, Tryz.results163, go_sem]) rfl HE.out
end Go.Proofs.YtffegkjlgeblbaaGreatDoor.Mdl
end

section
/- The program's writer: a run: walked. -/
namespace Go.Proofs.YtffegkjlgeblbaaGreatDoor.Mdl
open Go.RowKit Ints Typ Ins
set_option maxRecDepth 100000
set_option maxHeartbeats 4000000
set_option linter.unusedVariables false
theorem wrun {w : World} {g : Nat} {b : List Int} {bad : Bool} (a y : Int) (hy : IntKind.u8.wrap y = y) (h : WS w g b bad) :
    Calls Tryz.prog 229 #[.pointer (some ⟨g, 0, none⟩), .agg #[.int .i64 a, .int .i64 y]] w (WTold g b bad (okU a && isV y) (Leb.uB a.toNat ++ [y]) w) := by
  have HA := Lib.hid ((Below.refl w.heap.size w).alloc (Nat.le_refl _) (.cells #[.int .i64 a, .int .i64 y] 45))
  have HC : Hid ((w.alloc (.cells #[.int .i64 a, .int .i64 y] 45)).heap[w.heap.size]? = some (.cells #[.int .i64 a, .int .i64 y] 45 (0, 0))) := Lib.hid (Sec.heap_new w _)
  obtain ⟨W0, hW0⟩ : ∃ W, w.alloc (.cells #[.int .i64 a, .int .i64 y] 45) = W := ⟨_, rfl⟩
  have HW0 := Lib.hid hW0
  rw [hW0] at HA HC
  have HS := Lib.hid (h.keep HA.out)
  have HGW : Hid (w.heap.size ≠ g) := Lib.hid (by have := h.lt; omega)
  have HF := Lib.hid (WFr.of_below HA.out h.lt)
  clear h hW0
  go_enter Tryz.func229, Tryz.ntmps229
  go_wp2_with fail
  rw [HW0.out]
  refine (wnumA a HS.out).mono ?_
  rintro en w1 ⟨b1, bad1, rfl, hs1, hp1, hf1⟩
  have HP1 := Lib.hid (hp1)
  have HF1 := Lib.hid (HF.out.trans hf1)
  have HS1 := Lib.hid hs1
  have HC1 : Hid (w1.heap[w.heap.size]? = some (.cells #[.int .i64 a, .int .i64 y] 45 (0, 0))) := Lib.hid (hf1.block HC.out HGW.out (by decide))
  have c0 := (Sec.cells_at HC1.out 0).1
  have c1 := (Sec.cells_at HC1.out 1).1
  clear hp1 hf1 hs1
  go_wp2_with fail
  refine (wval y HS1.out).mono ?_
  rintro en w2 hq
  have HE := Lib.hid (WTold.next HP1.out HF1.out hq)
  obtain ⟨b', bad', rfl, _, _, _⟩ := hq
  go_wp2_with fail
  exact bodyPost_end (v := .tuple #[]) (by simp [results, Tryz.results229, go_sem]) rfl HE.out
end Go.Proofs.YtffegkjlgeblbaaGreatDoor.Mdl
end
