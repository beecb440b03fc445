/- ModEl, ModRow, ModOf, ModCount. -/
import Derived.Test.YtffegkjlgeblbaaGreatDoorRowG
import Derived.Test.YtffegkjlgeblbaaGreatDoorPkInsStab
section
/- What the lists of a module hold, as they came in. -/
namespace Go.Proofs.YtffegkjlgeblbaaGreatDoor.Mdl
open Go.ChangeShapes Go.WideShapes Go.ChangeAt Go.RowKit Go.Joins Ints Typ Ins
set_option maxRecDepth 100000
set_option maxHeartbeats 1000000
set_option linter.unusedVariables false
theorem cBool : Tryz.prog.cellsOf 4 = 1 := by kernel_rfl
theorem cU8 : Tryz.prog.cellsOf 5 = 1 := by kernel_rfl
theorem cStr : Tryz.prog.cellsOf 9 = 1 := by kernel_rfl
theorem cBy : Tryz.prog.cellsOf 22 = 1 := by kernel_rfl
theorem cIns : Tryz.prog.cellsOf 88 = 1 := by kernel_rfl
theorem c_fun : Tryz.prog.cellsOf 95 = 2 := by kernel_rfl
theorem c_lim : Tryz.prog.cellsOf 61 = 3 := by kernel_rfl
theorem c_imp : Tryz.prog.cellsOf 63 = 9 := by kernel_rfl
theorem c_glb : Tryz.prog.cellsOf 69 = 7 := by kernel_rfl
theorem c_exp : Tryz.prog.cellsOf 97 = 3 := by kernel_rfl
theorem c_elm : Tryz.prog.cellsOf 87 = 6 := by kernel_rfl
theorem c_cod : Tryz.prog.cellsOf 90 = 2 := by kernel_rfl
theorem c_dat : Tryz.prog.cellsOf 93 = 6 := by kernel_rfl
section
variable {H : Type} {enc : TypeId × Value → H} {w : World} {base : Nat}
theorem fun_cells {n : Nat} {c0 c1 : Value} {y : DataW H × List MemPlace} (h : DataW.trod enc Tryz.prog w base (fun _ => true) true n 95 [c0, c1] = some y) :
    ∃ (x0 : List Int) (x1 : List Int), Utf.Sl w c0 x0 ∧ (∀ y ∈ x0, 0 ≤ y ∧ y < 256) ∧ Utf.Sl w c1 x1 ∧ (∀ y ∈ x1, 0 ≤ y ∧ y < 256) := by
  obtain ⟨ys, m, _, _, _, hlen, hf⟩ := DataW.trod_struct Tryz.underlying95 h
  have h0 : DataW.trod enc Tryz.prog w base (fun _ => true) true m 22 (([c0, c1].drop 0).take (Tryz.prog.cellsOf 22)) = ys[0]? := hf 0 _ rfl
  rw [cBy] at h0
  have h1 : DataW.trod enc Tryz.prog w base (fun _ => true) true m 22 (([c0, c1].drop 1).take (Tryz.prog.cellsOf 22)) = ys[1]? := hf 1 _ rfl
  rw [cBy] at h1
  match ys, hlen with
  | [y0, y1], _ =>
    obtain ⟨a0, l0, k0, zs0, rfl, g0⟩ := rowb_of (v := c0) (y := y0) (by simpa using h0)
    obtain ⟨s0, b0⟩ := Utf.came_sl g0
    obtain ⟨a1, l1, k1, zs1, rfl, g1⟩ := rowb_of (v := c1) (y := y1) (by simpa using h1)
    obtain ⟨s1, b1⟩ := Utf.came_sl g1
    exact ⟨_, _, s0, b0, s1, b1⟩
theorem lim_cells {n : Nat} {c0 c1 c2 : Value} {y : DataW H × List MemPlace} (h : DataW.trod enc Tryz.prog w base (fun _ => true) true n 61 [c0, c1, c2] = some y) :
    ∃ (x0 : Int) (x1 : Int) (x2 : Bool), c0 = .int .i64 x0 ∧ (Lit.int .i64 x0).wf = true ∧ c1 = .int .i64 x1 ∧ (Lit.int .i64 x1).wf = true ∧ c2 = .bool x2 := by
  obtain ⟨ys, m, _, _, _, hlen, hf⟩ := DataW.trod_struct Tryz.underlying61 h
  have h0 : DataW.trod enc Tryz.prog w base (fun _ => true) true m 3 (([c0, c1, c2].drop 0).take (Tryz.prog.cellsOf 3)) = ys[0]? := hf 0 _ rfl
  rw [cInt] at h0
  have h1 : DataW.trod enc Tryz.prog w base (fun _ => true) true m 3 (([c0, c1, c2].drop 1).take (Tryz.prog.cellsOf 3)) = ys[1]? := hf 1 _ rfl
  rw [cInt] at h1
  have h2 : DataW.trod enc Tryz.prog w base (fun _ => true) true m 4 (([c0, c1, c2].drop 2).take (Tryz.prog.cellsOf 4)) = ys[2]? := hf 2 _ rfl
  rw [cBool] at h2
  match ys, hlen with
  | [y0, y1, y2], _ =>
    obtain ⟨x0, e0, _, w0⟩ := DataW.trod_int Tryz.underlying3 (x := y0) (by rw [h0]; rfl)
    simp at e0
    obtain ⟨x1, e1, _, w1⟩ := DataW.trod_int Tryz.underlying3 (x := y1) (by rw [h1]; rfl)
    simp at e1
    obtain ⟨x2, e2, _⟩ := DataW.trod_bool Tryz.underlying4 (x := y2) (by rw [h2]; rfl)
    simp at e2
    exact ⟨x0, x1, x2, e0, w0, e1, w1, e2⟩
theorem imp_cells {n : Nat} {c0 c1 c2 c3 c4 c5 c6 c7 c8 : Value} {y : DataW H × List MemPlace} (h : DataW.trod enc Tryz.prog w base (fun _ => true) true n 63 [c0, c1, c2, c3, c4, c5, c6, c7, c8] = some y) :
    ∃ (x0 : ByteArray) (x1 : ByteArray) (x2 : Int) (x3 : Int) (p4 : Int) (q4 : Int) (t4 : Bool) (x5 : Int) (x6 : Bool), c0 = .string x0 ∧ x0.size ≤ maxLen ∧ c1 = .string x1 ∧ x1.size ≤ maxLen ∧ c2 = .int .i64 x2 ∧ (Lit.int .i64 x2).wf = true ∧ c3 = .int .i64 x3 ∧ (Lit.int .i64 x3).wf = true ∧ c4 = .int .i64 p4 ∧ (Lit.int .i64 p4).wf = true ∧ c5 = .int .i64 q4 ∧ (Lit.int .i64 q4).wf = true ∧ c6 = .bool t4 ∧ c7 = .int .u8 x5 ∧ (Lit.int .u8 x5).wf = true ∧ c8 = .bool x6 := by
  obtain ⟨ys, m, _, _, _, hlen, hf⟩ := DataW.trod_struct Tryz.underlying63 h
  have h0 : DataW.trod enc Tryz.prog w base (fun _ => true) true m 9 (([c0, c1, c2, c3, c4, c5, c6, c7, c8].drop 0).take (Tryz.prog.cellsOf 9)) = ys[0]? := hf 0 _ rfl
  rw [cStr] at h0
  have h1 : DataW.trod enc Tryz.prog w base (fun _ => true) true m 9 (([c0, c1, c2, c3, c4, c5, c6, c7, c8].drop 1).take (Tryz.prog.cellsOf 9)) = ys[1]? := hf 1 _ rfl
  rw [cStr] at h1
  have h2 : DataW.trod enc Tryz.prog w base (fun _ => true) true m 3 (([c0, c1, c2, c3, c4, c5, c6, c7, c8].drop 2).take (Tryz.prog.cellsOf 3)) = ys[2]? := hf 2 _ rfl
  rw [cInt] at h2
  have h3 : DataW.trod enc Tryz.prog w base (fun _ => true) true m 3 (([c0, c1, c2, c3, c4, c5, c6, c7, c8].drop 3).take (Tryz.prog.cellsOf 3)) = ys[3]? := hf 3 _ rfl
  rw [cInt] at h3
  have h4 : DataW.trod enc Tryz.prog w base (fun _ => true) true m 61 (([c0, c1, c2, c3, c4, c5, c6, c7, c8].drop 4).take (Tryz.prog.cellsOf 61)) = ys[4]? := hf 4 _ rfl
  rw [c_lim] at h4
  have h5 : DataW.trod enc Tryz.prog w base (fun _ => true) true m 5 (([c0, c1, c2, c3, c4, c5, c6, c7, c8].drop 7).take (Tryz.prog.cellsOf 5)) = ys[5]? := hf 5 _ rfl
  rw [cU8] at h5
  have h6 : DataW.trod enc Tryz.prog w base (fun _ => true) true m 4 (([c0, c1, c2, c3, c4, c5, c6, c7, c8].drop 8).take (Tryz.prog.cellsOf 4)) = ys[6]? := hf 6 _ rfl
  rw [cBool] at h6
  match ys, hlen with
  | [y0, y1, y2, y3, y4, y5, y6], _ =>
    obtain ⟨x0, e0, _, w0⟩ := DataW.trod_string Tryz.underlying9 (x := y0) (by rw [h0]; rfl)
    simp at e0
    obtain ⟨x1, e1, _, w1⟩ := DataW.trod_string Tryz.underlying9 (x := y1) (by rw [h1]; rfl)
    simp at e1
    obtain ⟨x2, e2, _, w2⟩ := DataW.trod_int Tryz.underlying3 (x := y2) (by rw [h2]; rfl)
    simp at e2
    obtain ⟨x3, e3, _, w3⟩ := DataW.trod_int Tryz.underlying3 (x := y3) (by rw [h3]; rfl)
    simp at e3
    obtain ⟨p4, q4, t4, u40, u41, u42, u43, u44⟩ := lim_cells (y := y4) (by simpa using h4)
    obtain ⟨x5, e5, _, w5⟩ := DataW.trod_int Tryz.underlying5 (x := y5) (by rw [h5]; rfl)
    simp at e5
    obtain ⟨x6, e6, _⟩ := DataW.trod_bool Tryz.underlying4 (x := y6) (by rw [h6]; rfl)
    simp at e6
    exact ⟨x0, x1, x2, x3, p4, q4, t4, x5, x6, e0, w0, e1, w1, e2, w2, e3, w3, u40, u41, u42, u43, u44, e5, w5, e6⟩
theorem glb_cells {n : Nat} {c0 c1 c2 c3 c4 c5 c6 : Value} {y : DataW H × List MemPlace} (h : DataW.trod enc Tryz.prog w base (fun _ => true) true n 69 [c0, c1, c2, c3, c4, c5, c6] = some y) :
    ∃ (x0 : Int) (x1 : Bool) (x2 : Ins), c0 = .int .u8 x0 ∧ (Lit.int .u8 x0).wf = true ∧ c1 = .bool x1 ∧ c2 = .int .i64 x2.op ∧ c3 = .int .i64 x2.A ∧ c4 = .int .i64 x2.B ∧ c5 = .int .u64 x2.K ∧ InOk w (x2, c6) := by
  obtain ⟨ys, m, _, _, _, hlen, hf⟩ := DataW.trod_struct Tryz.underlying69 h
  have h0 : DataW.trod enc Tryz.prog w base (fun _ => true) true m 5 (([c0, c1, c2, c3, c4, c5, c6].drop 0).take (Tryz.prog.cellsOf 5)) = ys[0]? := hf 0 _ rfl
  rw [cU8] at h0
  have h1 : DataW.trod enc Tryz.prog w base (fun _ => true) true m 4 (([c0, c1, c2, c3, c4, c5, c6].drop 1).take (Tryz.prog.cellsOf 4)) = ys[1]? := hf 1 _ rfl
  rw [cBool] at h1
  have h2 : DataW.trod enc Tryz.prog w base (fun _ => true) true m 67 (([c0, c1, c2, c3, c4, c5, c6].drop 2).take (Tryz.prog.cellsOf 67)) = ys[2]? := hf 2 _ rfl
  rw [cellsI] at h2
  match ys, hlen with
  | [y0, y1, y2], _ =>
    obtain ⟨x0, e0, _, w0⟩ := DataW.trod_int Tryz.underlying5 (x := y0) (by rw [h0]; rfl)
    simp at e0
    obtain ⟨x1, e1, _⟩ := DataW.trod_bool Tryz.underlying4 (x := y1) (by rw [h1]; rfl)
    simp at e1
    obtain ⟨op2, A2, B2, K2, a2, l2, k2, zs2, e20, e21, e22, e23, rfl, v20, v21, v22, v23, g2⟩ := in_cells (y := y2) (by simpa using h2)
    exact ⟨x0, x1, ⟨op2, A2, B2, K2, zs2.take l2⟩, e0, w0, e1, e20, e21, e22, e23, ⟨came_slI g2, u64R_of v23⟩⟩
theorem exp_cells {n : Nat} {c0 c1 c2 : Value} {y : DataW H × List MemPlace} (h : DataW.trod enc Tryz.prog w base (fun _ => true) true n 97 [c0, c1, c2] = some y) :
    ∃ (x0 : ByteArray) (x1 : Int) (x2 : Int), c0 = .string x0 ∧ x0.size ≤ maxLen ∧ c1 = .int .i64 x1 ∧ (Lit.int .i64 x1).wf = true ∧ c2 = .int .i64 x2 ∧ (Lit.int .i64 x2).wf = true := by
  obtain ⟨ys, m, _, _, _, hlen, hf⟩ := DataW.trod_struct Tryz.underlying97 h
  have h0 : DataW.trod enc Tryz.prog w base (fun _ => true) true m 9 (([c0, c1, c2].drop 0).take (Tryz.prog.cellsOf 9)) = ys[0]? := hf 0 _ rfl
  rw [cStr] at h0
  have h1 : DataW.trod enc Tryz.prog w base (fun _ => true) true m 3 (([c0, c1, c2].drop 1).take (Tryz.prog.cellsOf 3)) = ys[1]? := hf 1 _ rfl
  rw [cInt] at h1
  have h2 : DataW.trod enc Tryz.prog w base (fun _ => true) true m 3 (([c0, c1, c2].drop 2).take (Tryz.prog.cellsOf 3)) = ys[2]? := hf 2 _ rfl
  rw [cInt] at h2
  match ys, hlen with
  | [y0, y1, y2], _ =>
    obtain ⟨x0, e0, _, w0⟩ := DataW.trod_string Tryz.underlying9 (x := y0) (by rw [h0]; rfl)
    simp at e0
    obtain ⟨x1, e1, _, w1⟩ := DataW.trod_int Tryz.underlying3 (x := y1) (by rw [h1]; rfl)
    simp at e1
    obtain ⟨x2, e2, _, w2⟩ := DataW.trod_int Tryz.underlying3 (x := y2) (by rw [h2]; rfl)
    simp at e2
    exact ⟨x0, x1, x2, e0, w0, e1, w1, e2, w2⟩
theorem elm_cells {n : Nat} {c0 c1 c2 c3 c4 c5 : Value} {y : DataW H × List MemPlace} (h : DataW.trod enc Tryz.prog w base (fun _ => true) true n 87 [c0, c1, c2, c3, c4, c5] = some y) :
    ∃ (x0 : Ins) (x1 : List Int), c0 = .int .i64 x0.op ∧ c1 = .int .i64 x0.A ∧ c2 = .int .i64 x0.B ∧ c3 = .int .u64 x0.K ∧ InOk w (x0, c4) ∧ SlI w c5 x1 := by
  obtain ⟨ys, m, _, _, _, hlen, hf⟩ := DataW.trod_struct Tryz.underlying87 h
  have h0 : DataW.trod enc Tryz.prog w base (fun _ => true) true m 67 (([c0, c1, c2, c3, c4, c5].drop 0).take (Tryz.prog.cellsOf 67)) = ys[0]? := hf 0 _ rfl
  rw [cellsI] at h0
  have h1 : DataW.trod enc Tryz.prog w base (fun _ => true) true m 26 (([c0, c1, c2, c3, c4, c5].drop 5).take (Tryz.prog.cellsOf 26)) = ys[1]? := hf 1 _ rfl
  rw [cSl] at h1
  match ys, hlen with
  | [y0, y1], _ =>
    obtain ⟨op0, A0, B0, K0, a0, l0, k0, zs0, e00, e01, e02, e03, rfl, v00, v01, v02, v03, g0⟩ := in_cells (y := y0) (by simpa using h0)
    obtain ⟨a1, l1, k1, zs1, rfl, g1⟩ := rowi_of (v := c5) (y := y1) (by simpa using h1)
    exact ⟨⟨op0, A0, B0, K0, zs0.take l0⟩, _, e00, e01, e02, e03, ⟨came_slI g0, u64R_of v03⟩, came_slI g1⟩
theorem cod_cells {n : Nat} {c0 c1 : Value} {y : DataW H × List MemPlace} (h : DataW.trod enc Tryz.prog w base (fun _ => true) true n 90 [c0, c1] = some y) :
    ∃ (x0 : List Int) (x1 : List (Ins × Value)), Utf.Sl w c0 x0 ∧ (∀ y ∈ x0, 0 ≤ y ∧ y < 256) ∧ InRow w c1 x1 := by
  obtain ⟨ys, m, _, _, _, hlen, hf⟩ := DataW.trod_struct Tryz.underlying90 h
  have h0 : DataW.trod enc Tryz.prog w base (fun _ => true) true m 22 (([c0, c1].drop 0).take (Tryz.prog.cellsOf 22)) = ys[0]? := hf 0 _ rfl
  rw [cBy] at h0
  have h1 : DataW.trod enc Tryz.prog w base (fun _ => true) true m 88 (([c0, c1].drop 1).take (Tryz.prog.cellsOf 88)) = ys[1]? := hf 1 _ rfl
  rw [cIns] at h1
  match ys, hlen with
  | [y0, y1], _ =>
    obtain ⟨a0, l0, k0, zs0, rfl, g0⟩ := rowb_of (v := c0) (y := y0) (by simpa using h0)
    obtain ⟨s0, b0⟩ := Utf.came_sl g0
    obtain ⟨x1, r1⟩ := insrow_of (v := c1) (y := y1) (by simpa using h1)
    exact ⟨_, x1, s0, b0, r1⟩
theorem dat_cells {n : Nat} {c0 c1 c2 c3 c4 c5 : Value} {y : DataW H × List MemPlace} (h : DataW.trod enc Tryz.prog w base (fun _ => true) true n 93 [c0, c1, c2, c3, c4, c5] = some y) :
    ∃ (x0 : Ins) (x1 : List Int), c0 = .int .i64 x0.op ∧ c1 = .int .i64 x0.A ∧ c2 = .int .i64 x0.B ∧ c3 = .int .u64 x0.K ∧ InOk w (x0, c4) ∧ Utf.Sl w c5 x1 ∧ (∀ y ∈ x1, 0 ≤ y ∧ y < 256) := by
  obtain ⟨ys, m, _, _, _, hlen, hf⟩ := DataW.trod_struct Tryz.underlying93 h
  have h0 : DataW.trod enc Tryz.prog w base (fun _ => true) true m 67 (([c0, c1, c2, c3, c4, c5].drop 0).take (Tryz.prog.cellsOf 67)) = ys[0]? := hf 0 _ rfl
  rw [cellsI] at h0
  have h1 : DataW.trod enc Tryz.prog w base (fun _ => true) true m 22 (([c0, c1, c2, c3, c4, c5].drop 5).take (Tryz.prog.cellsOf 22)) = ys[1]? := hf 1 _ rfl
  rw [cBy] at h1
  match ys, hlen with
  | [y0, y1], _ =>
    obtain ⟨op0, A0, B0, K0, a0, l0, k0, zs0, e00, e01, e02, e03, rfl, v00, v01, v02, v03, g0⟩ := in_cells (y := y0) (by simpa using h0)
    obtain ⟨a1, l1, k1, zs1, rfl, g1⟩ := rowb_of (v := c5) (y := y1) (by simpa using h1)
    obtain ⟨s1, b1⟩ := Utf.came_sl g1
    exact ⟨⟨op0, A0, B0, K0, zs0.take l0⟩, _, e00, e01, e02, e03, ⟨came_slI g0, u64R_of v03⟩, s1, b1⟩
end
end Go.Proofs.YtffegkjlgeblbaaGreatDoor.Mdl
end

section
/- The lists of a module: rows of each kind; a module that came in. -/
namespace Go.Proofs.YtffegkjlgeblbaaGreatDoor.Mdl
open Go.ChangeShapes Go.WideShapes Go.ChangeAt Go.RowKit Go.Joins Ints Typ Ins
set_option maxRecDepth 100000
set_option maxHeartbeats 1000000
set_option linter.unusedVariables false
theorem slB_one {w : World} {v : Value} {l : List Int} (h : Utf.Sl w v l) : v.oneCell' = true := by
  obtain ⟨A, c, rfl, _⟩ := h
  rfl
theorem slI_one {w : World} {v : Value} {l : List Int} (h : SlI w v l) : v.oneCell' = true := by
  obtain ⟨A, c, rfl, _⟩ := h
  rfl
theorem inRow_one {w : World} {v : Value} {l : List (Ins × Value)} (h : InRow w v l) : v.oneCell' = true := by
  obtain ⟨⟨A, c, rfl, _⟩, _⟩ := h
  rfl
theorem c5_one {w : World} {p : Ins × Value} (h : InOk w p) : ∀ u ∈ c5 p, u.oneCell' = true := by
  have := slI_one h.1
  intro u hu
  simp only [c5, List.mem_cons, List.not_mem_nil, or_false] at hu
  rcases hu with rfl | rfl | rfl | rfl | rfl
  · rfl
  · rfl
  · rfl
  · rfl
  · exact this
def ByOk (w : World) (p : List Int × Value) : Prop := Utf.Sl w p.2 p.1 ∧ ∀ y ∈ p.1, 0 ≤ y ∧ y < 256
theorem ByOk.keep {w w' : World} {p : List Int × Value} (h : ByOk w p) (hb : Below w.heap.size w w') : ByOk w' p := ⟨h.1.keep hb, h.2⟩
abbrev FunT := (List Int × Value) × (List Int × Value)
abbrev LimT := Int × Int × Bool
structure ImpT where
  md : ByteArray
  nm : ByteArray
  kind : Int
  ty : Int
  lim : LimT
  val : Int
  mt : Bool
abbrev GlbT := Int × Bool × (Ins × Value)
abbrev ExpT := ByteArray × Int × Int
abbrev ElmT := (Ins × Value) × (List Int × Value)
abbrev CodT := (List Int × Value) × (List (Ins × Value) × Value)
abbrev DatT := (Ins × Value) × (List Int × Value)
def w64 (x : Int) : Prop := (Lit.int .i64 x).wf = true
def w8 (x : Int) : Prop := (Lit.int .u8 x).wf = true
def elF : RowG.El FunT where
  e := 95
  s := 2
  z := .agg #[.slice none 0 0, .slice none 0 0]
  bytes := 48
  enc := fun p => [p.1.2, p.2.2]
  ok := fun w p => ByOk w p.1 ∧ ByOk w p.2
  pos := by decide
  len := fun _ => rfl
  info := by kernel_rfl
  zs := rfl
  stay := fun h hb => ⟨h.1.keep hb, h.2.keep hb⟩
  one := fun h u hu => by
    simp only [List.mem_cons, List.not_mem_nil, or_false] at hu
    rcases hu with rfl | rfl
    · exact slB_one h.1.1
    · exact slB_one h.2.1
def elL : RowG.El LimT where
  e := 61
  s := 3
  z := .agg #[.int .i64 0, .int .i64 0, .bool false]
  bytes := 24
  enc := fun p => [.int .i64 p.1, .int .i64 p.2.1, .bool p.2.2]
  ok := fun w p => w64 p.1 ∧ w64 p.2.1
  pos := by decide
  len := fun _ => rfl
  info := by kernel_rfl
  zs := rfl
  stay := fun h _ => h
  one := fun h u hu => by
    simp only [List.mem_cons, List.not_mem_nil, or_false] at hu
    rcases hu with rfl | rfl | rfl <;> rfl
def elI : RowG.El ImpT where
  e := 63
  s := 9
  z := .agg #[.string ByteArray.empty, .string ByteArray.empty, .int .i64 0, .int .i64 0, .int .i64 0, .int .i64 0, .bool false, .int .u8 0, .bool false]
  bytes := 80
  enc := fun p => [.string p.md, .string p.nm, .int .i64 p.kind, .int .i64 p.ty, .int .i64 p.lim.1, .int .i64 p.lim.2.1, .bool p.lim.2.2, .int .u8 p.val, .bool p.mt]
  ok := fun w p => p.md.size ≤ maxLen ∧ p.nm.size ≤ maxLen ∧ w64 p.kind ∧ w64 p.ty ∧ w64 p.lim.1 ∧ w64 p.lim.2.1 ∧ w8 p.val
  pos := by decide
  len := fun _ => rfl
  info := by kernel_rfl
  zs := rfl
  stay := fun h _ => h
  one := fun h u hu => by
    simp only [List.mem_cons, List.not_mem_nil, or_false] at hu
    rcases hu with rfl | rfl | rfl | rfl | rfl | rfl | rfl | rfl | rfl <;> rfl
def elG : RowG.El GlbT where
  e := 69
  s := 7
  z := .agg #[.int .u8 0, .bool false, .int .i64 0, .int .i64 0, .int .i64 0, .int .u64 0, .slice none 0 0]
  bytes := 64
  enc := fun p => .int .u8 p.1 :: .bool p.2.1 :: c5 p.2.2
  ok := fun w p => w8 p.1 ∧ InOk w p.2.2
  pos := by decide
  len := fun _ => rfl
  info := by kernel_rfl
  zs := rfl
  stay := fun h hb => ⟨h.1, h.2.keep hb⟩
  one := fun h u hu => by
    rcases List.mem_cons.1 hu with rfl | hu
    · rfl
    · rcases List.mem_cons.1 hu with rfl | hu
      · rfl
      · exact c5_one h.2 u hu
def elX : RowG.El ExpT where
  e := 97
  s := 3
  z := .agg #[.string ByteArray.empty, .int .i64 0, .int .i64 0]
  bytes := 32
  enc := fun p => [.string p.1, .int .i64 p.2.1, .int .i64 p.2.2]
  ok := fun w p => p.1.size ≤ maxLen ∧ w64 p.2.1 ∧ w64 p.2.2
  pos := by decide
  len := fun _ => rfl
  info := by kernel_rfl
  zs := rfl
  stay := fun h _ => h
  one := fun h u hu => by
    simp only [List.mem_cons, List.not_mem_nil, or_false] at hu
    rcases hu with rfl | rfl | rfl <;> rfl
def elE : RowG.El ElmT where
  e := 87
  s := 6
  z := .agg #[.int .i64 0, .int .i64 0, .int .i64 0, .int .u64 0, .slice none 0 0, .slice none 0 0]
  bytes := 80
  enc := fun p => c5 p.1 ++ [p.2.2]
  ok := fun w p => InOk w p.1 ∧ SlI w p.2.2 p.2.1
  pos := by decide
  len := fun _ => rfl
  info := by kernel_rfl
  zs := rfl
  stay := fun h hb => ⟨h.1.keep hb, h.2.keep hb⟩
  one := fun h u hu => by
    rcases List.mem_append.1 hu with hu | hu
    · exact c5_one h.1 u hu
    · rw [List.mem_singleton.1 hu]
      exact slI_one h.2
def elC : RowG.El CodT where
  e := 90
  s := 2
  z := .agg #[.slice none 0 0, .slice none 0 0]
  bytes := 48
  enc := fun p => [p.1.2, p.2.2]
  ok := fun w p => ByOk w p.1 ∧ InRow w p.2.2 p.2.1
  pos := by decide
  len := fun _ => rfl
  info := by kernel_rfl
  zs := rfl
  stay := fun h hb => ⟨h.1.keep hb, h.2.keep hb⟩
  one := fun h u hu => by
    simp only [List.mem_cons, List.not_mem_nil, or_false] at hu
    rcases hu with rfl | rfl
    · exact slB_one h.1.1
    · exact inRow_one h.2
def elD : RowG.El DatT where
  e := 93
  s := 6
  z := .agg #[.int .i64 0, .int .i64 0, .int .i64 0, .int .u64 0, .slice none 0 0, .slice none 0 0]
  bytes := 80
  enc := fun p => c5 p.1 ++ [p.2.2]
  ok := fun w p => InOk w p.1 ∧ ByOk w p.2
  pos := by decide
  len := fun _ => rfl
  info := by kernel_rfl
  zs := rfl
  stay := fun h hb => ⟨h.1.keep hb, h.2.keep hb⟩
  one := fun h u hu => by
    rcases List.mem_append.1 hu with hu | hu
    · exact c5_one h.1 u hu
    · rw [List.mem_singleton.1 hu]
      exact slB_one h.2.1
end Go.Proofs.YtffegkjlgeblbaaGreatDoor.Mdl
end

section
/- A module that came in: its lists, and where they stand. -/
namespace Go.Proofs.YtffegkjlgeblbaaGreatDoor.Mdl
open Go.ChangeShapes Go.WideShapes Go.ChangeAt Go.RowKit Go.Joins Ints Typ Ins
set_option maxRecDepth 100000
set_option maxHeartbeats 1000000
set_option linter.unusedVariables false
structure ModT where
  types : List FunT
  imps : List ImpT
  funcs : List Int
  tabs : List LimT
  mems : List LimT
  globs : List GlbT
  exps : List ExpT
  start : Int
  elems : List ElmT
  codes : List CodT
  datas : List DatT
def ModAt (w : World) (v : Value) (m : ModT) : Prop := ∃ vt vi vf va vm vg vx ve vc vd, v = .agg #[vt, vi, vf, va, vm, vg, vx, .int .i64 m.start, ve, vc, vd] ∧
  RowG.Row elF w vt m.types ∧ RowG.Row elI w vi m.imps ∧ SlI w vf m.funcs ∧ RowG.Row elL w va m.tabs ∧ RowG.Row elL w vm m.mems ∧ RowG.Row elG w vg m.globs ∧ RowG.Row elX w vx m.exps ∧ w64 m.start ∧ RowG.Row elE w ve m.elems ∧ RowG.Row elC w vc m.codes ∧ RowG.Row elD w vd m.datas
theorem ModAt.keep {w w' : World} {v : Value} {m : ModT} (h : ModAt w v m) (hb : Below w.heap.size w w') : ModAt w' v m := by
  obtain ⟨vt, vi, vf, va, vm, vg, vx, ve, vc, vd, e, h1, h2, h3, h4, h5, h6, h7, h8, h9, h10, h11⟩ := h
  exact ⟨vt, vi, vf, va, vm, vg, vx, ve, vc, vd, e, h1.keep hb, h2.keep hb, h3.keep hb, h4.keep hb, h5.keep hb, h6.keep hb, h7.keep hb, h8, h9.keep hb, h10.keep hb, h11.keep hb⟩
section
variable {H : Type} {enc : TypeId × Value → H} {w : World} {base : Nat}
theorem funrow_of {n : Nat} {v : Value} {y : DataW H × List MemPlace} (h : DataW.trod enc Tryz.prog w base (fun _ => true) true n 24 [v] = some y) : ∃ l, RowG.Row elF w v l :=
  RowG.row_of elF Tryz.underlying24 c_fun (fun {n cs y} hl h => by
    match cs, hl with
    | [c0, c1], _ =>
      obtain ⟨x0, x1, h0, h1, h2, h3⟩ := fun_cells h
      exact ⟨((x0, c0), (x1, c1)), ⟨⟨h0, h1⟩, ⟨h2, h3⟩⟩, rfl⟩) h
theorem limrow_of {n : Nat} {v : Value} {y : DataW H × List MemPlace} (h : DataW.trod enc Tryz.prog w base (fun _ => true) true n 27 [v] = some y) : ∃ l, RowG.Row elL w v l :=
  RowG.row_of elL Tryz.underlying27 c_lim (fun {n cs y} hl h => by
    match cs, hl with
    | [c0, c1, c2], _ =>
      obtain ⟨x0, x1, x2, rfl, h1, rfl, h3, rfl⟩ := lim_cells h
      exact ⟨(x0, x1, x2), ⟨h1, h3⟩, rfl⟩) h
theorem improw_of {n : Nat} {v : Value} {y : DataW H × List MemPlace} (h : DataW.trod enc Tryz.prog w base (fun _ => true) true n 25 [v] = some y) : ∃ l, RowG.Row elI w v l :=
  RowG.row_of elI Tryz.underlying25 c_imp (fun {n cs y} hl h => by
    match cs, hl with
    | [c0, c1, c2, c3, c4, c5', c6, c7, c8], _ =>
      obtain ⟨x0, x1, x2, x3, p4, q4, t4, x5, x6, rfl, h0, rfl, h1, rfl, h2, rfl, h3, rfl, h4, rfl, h5, rfl, rfl, h6, rfl⟩ := imp_cells h
      exact ⟨⟨x0, x1, x2, x3, (p4, q4, t4), x5, x6⟩, ⟨h0, h1, h2, h3, h4, h5, h6⟩, rfl⟩) h
theorem glbrow_of {n : Nat} {v : Value} {y : DataW H × List MemPlace} (h : DataW.trod enc Tryz.prog w base (fun _ => true) true n 28 [v] = some y) : ∃ l, RowG.Row elG w v l :=
  RowG.row_of elG Tryz.underlying28 c_glb (fun {n cs y} hl h => by
    match cs, hl with
    | [c0, c1, c2, c3, c4, c5', c6], _ =>
      obtain ⟨x0, x1, x2, rfl, h0, rfl, rfl, rfl, rfl, rfl, h1⟩ := glb_cells h
      exact ⟨(x0, x1, (x2, c6)), ⟨h0, h1⟩, rfl⟩) h
theorem exprow_of {n : Nat} {v : Value} {y : DataW H × List MemPlace} (h : DataW.trod enc Tryz.prog w base (fun _ => true) true n 29 [v] = some y) : ∃ l, RowG.Row elX w v l :=
  RowG.row_of elX Tryz.underlying29 c_exp (fun {n cs y} hl h => by
    match cs, hl with
    | [c0, c1, c2], _ =>
      obtain ⟨x0, x1, x2, rfl, h0, rfl, h1, rfl, h2⟩ := exp_cells h
      exact ⟨(x0, x1, x2), ⟨h0, h1, h2⟩, rfl⟩) h
theorem elmrow_of {n : Nat} {v : Value} {y : DataW H × List MemPlace} (h : DataW.trod enc Tryz.prog w base (fun _ => true) true n 30 [v] = some y) : ∃ l, RowG.Row elE w v l :=
  RowG.row_of elE Tryz.underlying30 c_elm (fun {n cs y} hl h => by
    match cs, hl with
    | [c0, c1, c2, c3, c4, c5'], _ =>
      obtain ⟨x0, x1, rfl, rfl, rfl, rfl, h0, h1⟩ := elm_cells h
      exact ⟨((x0, c4), (x1, c5')), ⟨h0, h1⟩, rfl⟩) h
theorem codrow_of {n : Nat} {v : Value} {y : DataW H × List MemPlace} (h : DataW.trod enc Tryz.prog w base (fun _ => true) true n 31 [v] = some y) : ∃ l, RowG.Row elC w v l :=
  RowG.row_of elC Tryz.underlying31 c_cod (fun {n cs y} hl h => by
    match cs, hl with
    | [c0, c1], _ =>
      obtain ⟨x0, x1, h0, h1, h2⟩ := cod_cells h
      exact ⟨((x0, c0), (x1, c1)), ⟨⟨h0, h1⟩, h2⟩, rfl⟩) h
theorem datrow_of {n : Nat} {v : Value} {y : DataW H × List MemPlace} (h : DataW.trod enc Tryz.prog w base (fun _ => true) true n 32 [v] = some y) : ∃ l, RowG.Row elD w v l :=
  RowG.row_of elD Tryz.underlying32 c_dat (fun {n cs y} hl h => by
    match cs, hl with
    | [c0, c1, c2, c3, c4, c5'], _ =>
      obtain ⟨x0, x1, rfl, rfl, rfl, rfl, h0, h1, h2⟩ := dat_cells h
      exact ⟨((x0, c4), (x1, c5')), ⟨h0, h1, h2⟩, rfl⟩) h
theorem array11 {α : Type} {cs : Array α} (h : cs.size = 11) : ∃ c0 c1 c2 c3 c4 c5 c6 c7 c8 c9 c10, cs = #[c0, c1, c2, c3, c4, c5, c6, c7, c8, c9, c10] := by
  obtain ⟨l⟩ := cs
  match l, h with
  | [c0, c1, c2, c3, c4, c5, c6, c7, c8, c9, c10], _ => exact ⟨c0, c1, c2, c3, c4, c5, c6, c7, c8, c9, c10, rfl⟩
theorem c_mod : Tryz.prog.cellsOf 34 = 11 := by kernel_rfl
theorem cs_0 : Tryz.prog.cellsOf 31 = 1 := by kernel_rfl
theorem cs_1 : Tryz.prog.cellsOf 32 = 1 := by kernel_rfl
theorem cs_2 : Tryz.prog.cellsOf 30 = 1 := by kernel_rfl
theorem cs_3 : Tryz.prog.cellsOf 29 = 1 := by kernel_rfl
theorem cs_4 : Tryz.prog.cellsOf 24 = 1 := by kernel_rfl
theorem cs_5 : Tryz.prog.cellsOf 28 = 1 := by kernel_rfl
theorem cs_6 : Tryz.prog.cellsOf 25 = 1 := by kernel_rfl
theorem cs_7 : Tryz.prog.cellsOf 27 = 1 := by kernel_rfl
theorem mod_of {r : Reach} {b0 : Nat} {v : Value} {d : DataW H} {p : List MemPlace} (hv : Value.okWide Tryz.prog w r b0 34 v) (h : DataW.Trod enc Tryz.prog w base (fun _ => true) true 34 v d p) : ∃ m, ModAt w v m := by
  obtain ⟨cs, rfl, hsz⟩ := okWide_struct Tryz.underlying34 hv
  obtain ⟨c0, c1, c2, c3, c4, c5', c6, c7, c8, c9, c10, rfl⟩ := array11 (hsz.trans c_mod)
  obtain ⟨fuel, hf'⟩ := h
  have hf0 : DataW.trod enc Tryz.prog w base (fun _ => true) true fuel 34 [c0, c1, c2, c3, c4, c5', c6, c7, c8, c9, c10] = some (d, p) := by simpa [Value.cells] using hf'
  obtain ⟨ys, m, _, _, _, hlen, hf⟩ := DataW.trod_struct Tryz.underlying34 hf0
  have h0 : DataW.trod enc Tryz.prog w base (fun _ => true) true m 24 (([c0, c1, c2, c3, c4, c5', c6, c7, c8, c9, c10].drop 0).take (Tryz.prog.cellsOf 24)) = ys[0]? := hf 0 _ rfl
  rw [cs_4] at h0
  have h1 : DataW.trod enc Tryz.prog w base (fun _ => true) true m 25 (([c0, c1, c2, c3, c4, c5', c6, c7, c8, c9, c10].drop 1).take (Tryz.prog.cellsOf 25)) = ys[1]? := hf 1 _ rfl
  rw [cs_6] at h1
  have h2 : DataW.trod enc Tryz.prog w base (fun _ => true) true m 26 (([c0, c1, c2, c3, c4, c5', c6, c7, c8, c9, c10].drop 2).take (Tryz.prog.cellsOf 26)) = ys[2]? := hf 2 _ rfl
  rw [cSl] at h2
  have h3 : DataW.trod enc Tryz.prog w base (fun _ => true) true m 27 (([c0, c1, c2, c3, c4, c5', c6, c7, c8, c9, c10].drop 3).take (Tryz.prog.cellsOf 27)) = ys[3]? := hf 3 _ rfl
  rw [cs_7] at h3
  have h4 : DataW.trod enc Tryz.prog w base (fun _ => true) true m 27 (([c0, c1, c2, c3, c4, c5', c6, c7, c8, c9, c10].drop 4).take (Tryz.prog.cellsOf 27)) = ys[4]? := hf 4 _ rfl
  rw [cs_7] at h4
  have h5 : DataW.trod enc Tryz.prog w base (fun _ => true) true m 28 (([c0, c1, c2, c3, c4, c5', c6, c7, c8, c9, c10].drop 5).take (Tryz.prog.cellsOf 28)) = ys[5]? := hf 5 _ rfl
  rw [cs_5] at h5
  have h6 : DataW.trod enc Tryz.prog w base (fun _ => true) true m 29 (([c0, c1, c2, c3, c4, c5', c6, c7, c8, c9, c10].drop 6).take (Tryz.prog.cellsOf 29)) = ys[6]? := hf 6 _ rfl
  rw [cs_3] at h6
  have h7 : DataW.trod enc Tryz.prog w base (fun _ => true) true m 3 (([c0, c1, c2, c3, c4, c5', c6, c7, c8, c9, c10].drop 7).take (Tryz.prog.cellsOf 3)) = ys[7]? := hf 7 _ rfl
  rw [cInt] at h7
  have h8 : DataW.trod enc Tryz.prog w base (fun _ => true) true m 30 (([c0, c1, c2, c3, c4, c5', c6, c7, c8, c9, c10].drop 8).take (Tryz.prog.cellsOf 30)) = ys[8]? := hf 8 _ rfl
  rw [cs_2] at h8
  have h9 : DataW.trod enc Tryz.prog w base (fun _ => true) true m 31 (([c0, c1, c2, c3, c4, c5', c6, c7, c8, c9, c10].drop 9).take (Tryz.prog.cellsOf 31)) = ys[9]? := hf 9 _ rfl
  rw [cs_0] at h9
  have h10 : DataW.trod enc Tryz.prog w base (fun _ => true) true m 32 (([c0, c1, c2, c3, c4, c5', c6, c7, c8, c9, c10].drop 10).take (Tryz.prog.cellsOf 32)) = ys[10]? := hf 10 _ rfl
  rw [cs_1] at h10
  match ys, hlen with
  | [y0, y1, y2, y3, y4, y5, y6, y7, y8, y9, y10], _ =>
    obtain ⟨x0, g0⟩ := funrow_of (v := c0) (y := y0) (by simpa using h0)
    obtain ⟨x1, g1⟩ := improw_of (v := c1) (y := y1) (by simpa using h1)
    obtain ⟨a2, l2, k2, zs2, rfl, g2⟩ := rowi_of (v := c2) (y := y2) (by simpa using h2)
    obtain ⟨x3, g3⟩ := limrow_of (v := c3) (y := y3) (by simpa using h3)
    obtain ⟨x4, g4⟩ := limrow_of (v := c4) (y := y4) (by simpa using h4)
    obtain ⟨x5, g5⟩ := glbrow_of (v := c5') (y := y5) (by simpa using h5)
    obtain ⟨x6, g6⟩ := exprow_of (v := c6) (y := y6) (by simpa using h6)
    obtain ⟨x7, e7, _, w7⟩ := DataW.trod_int Tryz.underlying3 (x := y7) (by rw [h7]; rfl)
    simp at e7
    subst e7
    obtain ⟨x8, g8⟩ := elmrow_of (v := c8) (y := y8) (by simpa using h8)
    obtain ⟨x9, g9⟩ := codrow_of (v := c9) (y := y9) (by simpa using h9)
    obtain ⟨x10, g10⟩ := datrow_of (v := c10) (y := y10) (by simpa using h10)
    exact ⟨⟨x0, x1, zs2.take l2, x3, x4, x5, x6, x7, x8, x9, x10⟩, _, _, _, _, _, _, _, _, _, _, rfl, g0, g1, came_slI g2, g3, g4, g5, g6, w7, g8, g9, g10⟩
end
end Go.Proofs.YtffegkjlgeblbaaGreatDoor.Mdl
end

section
/- How many of a kind, by the document: walked. -/
namespace Go.Proofs.YtffegkjlgeblbaaGreatDoor.Mdl
open Go.RowKit Ints Typ Ins
set_option maxRecDepth 100000
set_option maxHeartbeats 4000000
set_option linter.unusedVariables false
theorem row_len {α : Type} {T : RowG.El α} {w : World} {v : Value} {l : List α} (h : RowG.Row T w v l) : ∃ A c, v = .slice A l.length c := by
  obtain ⟨A, c, e, _⟩ := h.form
  exact ⟨A, c, e⟩
end Go.Proofs.YtffegkjlgeblbaaGreatDoor.Mdl
end
