/- SecPA, SecPB. -/
import Derived.Test.YtffegkjlgeblbaaGreatDoorPkSecCustom
import Derived.Lib.LazyBuf
section
/- The program's small functions of sections, walked: a clone, a name's fault, what rises, the head. -/
namespace Go.Proofs.YtffegkjlgeblbaaGreatDoor.Sec
open Go.RowKit Utf
set_option maxRecDepth 100000
set_option maxHeartbeats 2000000
set_option linter.unusedVariables false
/-- Clone: nil of nil, else bytes of the call's own. -/
def Cloned (w : World) (D : List Int) (e : Ending) (w' : World) : Prop := (∃ g n c, e = .returned (.slice g n c) ∧ w'.ownsRow w.heap.size 5 1 (.slice g n c) D.length (Leb.vb D) ∧ n = D.length) ∧ Below w.heap.size w w'
theorem pclone_any {A : Option Addr} {n c : Nat} {D : List Int} {w : World} (hn : D.length = n) (hA : Leb.Byt w w.heap.size A D) (hl : n ≤ 1000000) : Calls Tryz.prog 112 #[.slice A n c] w (Cloned w D) := by
  rcases A with _ | ad
  · have hD : D = [] := by
      rcases D with _ | ⟨x, D⟩
      · rfl
      · obtain ⟨ad, h, _⟩ := hA (by simp)
        cases h
    subst hD
    clear hA hl hn
    have heq : ∀ W, (binOp .eql 22 (.slice none n c) (.slice none 0 0)).run Tryz.prog W = .ok (.bool true) W := fun W => run_eql_slice_nil W _ _ none n c Tryz.underlying22
    go_enter Tryz.func112, Tryz.ntmps112
    go_wp2_with fail
    exact bodyPost_ret (v := .slice none 0 0) (by simp [results, Tryz.results112, go_sem]) rfl ⟨⟨_, _, _, rfl, ⟨rfl, .inl ⟨rfl, rfl⟩⟩, rfl⟩, Below.refl _ _⟩
  · have HA := Lib.hid hA
    have HN := Lib.hid hn
    have HW := Lib.hid ((Below.refl w.heap.size w).alloc (Nat.le_refl _) (.cells #[] 5))
    have heq : ∀ W, (binOp .eql 22 (.slice (some ad) n c) (.slice none 0 0)).run Tryz.prog W = .ok (.bool false) W := fun W => run_eql_slice_nil W _ _ (some ad) n c Tryz.underlying22
    clear hA hn
    go_enter Tryz.func112, Tryz.ntmps112
    go_wp2_with (at_builtin; refine stop_ ?_)
    refine Lib.hid ?_
    refine Leb.wp_bytes _ rfl (.tmp 5) (.tmp 6) rfl w.heap.size w.heap.size _ [] D rfl (Leb.own_none w) (some ad) c ?_ (HA.out.keep HW.out) ?_ HW.out.size ?_
    focus (rw [HN.out]; rfl)
    focus (rw [HN.out]; simp; omega)
    intro v1 w1 ho1 hb1
    rw [List.nil_append] at ho1
    obtain ⟨⟨g1, c1, rfl⟩, ho2⟩ := ho1
    have HO := Lib.hid ho2
    have HB := Lib.hid (HW.out.trans hb1)
    clear ho2 hb1
    rw [HN.out] at HO ⊢
    go_wp2_with fail
    exact bodyPost_ret (v := .slice (some ⟨g1, 0, none⟩) n c1) (by simp [results, Tryz.results112, go_sem]) rfl ⟨⟨_, _, _, rfl, by rw [HN.out]; exact HO.out, HN.out.symm⟩, HB.out⟩
/-- A section's fault. -/
noncomputable def nf (p : Sct) : Int := if p.1 = 0 then (nm p.2 0).2.2 else 0
theorem pnf_any {x : Int} {A : Option Addr} {n c : Nat} {D : List Int} {w : World} (hn : D.length = n) (hs : Sl w (.slice A n c) D) (hb : ∀ y ∈ D, 0 ≤ y ∧ y < 256) (hl : n ≤ 1000000) :
    Calls Tryz.prog 113 #[.agg #[.int .i64 x, .slice A n c]] w fun e w' => e = .returned (.int .i64 (nf (x, D))) ∧ Below w.heap.size w w' := by
  have HW := Lib.hid ((Below.refl w.heap.size w).alloc (Nat.le_refl _) (.cells #[.int .i64 x, .slice A n c] 54))
  have HNM := Lib.hid (pname_any (.slice A n c) D 0 _ hb (hs.keep HW.out) (by omega))
  by_cases hx : x = 0
  · subst hx
    have HV : Hid (nf (0, D) = (nm D 0).2.2) := by show _ = _; unfold nf; rw [if_pos rfl]
    rw [HV.out]
    obtain ⟨⟨N0, N1, E⟩, hNM⟩ : ∃ y, nm D 0 = y := ⟨_, rfl⟩
    rw [hNM] at HNM ⊢
    clear hNM hs hb hl hn HV
    go_enter Tryz.func113, Tryz.ntmps113
    go_wp2_with fail
    refine HNM.out.mono ?_
    rintro en w1 ⟨rfl, hb1⟩
    have HB1 := Lib.hid (HW.out.trans (hb1.mono HW.out.size))
    clear hb1
    go_wp2_with fail
    exact bodyPost_ret (v := .int .i64 E) (by simp [results, Tryz.results113, go_sem]) rfl ⟨rfl, HB1.out⟩
  · have HV : Hid (nf (x, D) = 0) := by show _ = _; unfold nf; rw [if_neg hx]
    rw [HV.out]
    have hx1 : (x != 0) = true := by simpa using hx
    clear hs hb hl hn HV HNM
    go_enter Tryz.func113, Tryz.ntmps113
    go_wp2_with fail
    exact bodyPost_ret (v := .int .i64 0) (by simp [results, Tryz.results113, go_sem]) rfl ⟨rfl, HW.out⟩
/-- Does an ID rise? -/
def ris (x top : Int) : Bool := (x == 0) || decide (top < x)
theorem prises_any (x top : Int) (w : World) : Calls Tryz.prog 65 #[.int .i64 x, .int .i64 top] w fun e w' => e = .returned (.bool (ris x top)) ∧ w' = w := by
  unfold ris
  cases hx : (x == 0) <;> cases ht : decide (top < x)
  all_goals (
    go_enter Tryz.func65, Tryz.ntmps65
    go_wp2_with fail
    first
    | exact bodyPost_ret (v := .bool true) (by simp [results, Tryz.results65, go_sem]) rfl ⟨rfl, rfl⟩
    | exact bodyPost_ret (v := .bool false) (by simp [results, Tryz.results65, go_sem]) rfl ⟨rfl, rfl⟩)
/-- Why bytes are no module's, by their head. -/
def hf (b : List Int) : Int := if 65536 < b.length then 4 else if b.length < 8 then 2 else if b.take 8 ≠ hd8 then 3 else 0
theorem hd8_str : strOfNums hd8 = { data := #[0, 97, 115, 109, 1, 0, 0, 0] } := by decide
theorem hd8_list : ({ data := #[0, 97, 115, 109, 1, 0, 0, 0] } : ByteArray).toList = ([0, 97, 115, 109, 1, 0, 0, 0] : List UInt8) := by first | rfl | simp | decide
theorem phead_any {A : Option Addr} {n c : Nat} {b : List Int} {w : World} (hn : b.length = n) (hs : Sl w (.slice A n c) b) (hb : ∀ x ∈ b, 0 ≤ x ∧ x < 256) : Calls Tryz.prog 63 #[.slice A n c] w fun e w' => e = .returned (.int .i64 (hf b)) ∧ Below w.heap.size w w' := by
  by_cases h1 : 65536 < n
  · have HV : Hid (hf b = 4) := by show _ = _; unfold hf; rw [hn, if_pos h1]
    rw [HV.out]
    have t1 : decide ((65536 : Int) < (n : Int)) = true := decide_eq_true (by omega)
    have t1' : decide (65536 < n) = true := decide_eq_true h1
    clear hs hb hn h1 HV
    go_enter Tryz.func63, Tryz.ntmps63
    go_wp2_with fail
    exact bodyPost_ret (v := .int .i64 4) (by simp [results, Tryz.results63, go_sem]) rfl ⟨rfl, Below.refl _ _⟩
  · have t1 : decide ((65536 : Int) < (n : Int)) = false := decide_eq_false (by omega)
    have t1' : decide (65536 < n) = false := decide_eq_false h1
    by_cases h2 : n < 8
    · have HV : Hid (hf b = 2) := by show _ = _; unfold hf; rw [hn, if_neg h1, if_pos h2]
      rw [HV.out]
      have t2 : decide ((n : Int) < 8) = true := decide_eq_true (by omega)
      have t2' : decide (n < 8) = true := decide_eq_true h2
      clear hs hb hn h1 h2 HV
      go_enter Tryz.func63, Tryz.ntmps63
      go_wp2_with fail
      exact bodyPost_ret (v := .int .i64 2) (by simp [results, Tryz.results63, go_sem]) rfl ⟨rfl, Below.refl _ _⟩
    · have t2 : decide ((n : Int) < 8) = false := decide_eq_false (by omega)
      have t2' : decide (n < 8) = false := decide_eq_false h2
      obtain ⟨A', c', e1, hc, hm, h4⟩ := id hs
      obtain ⟨g, off, rfl, _⟩ := h4 (fun e => by rw [e] at hn; simp at hn; omega)
      injection e1 with e1 hnb e3
      subst e1 e3
      clear hnb
      have hst := sl_take hs (k := 8) (by omega)
      have e1 : ∀ W, Below w.heap.size w W → (convert 22 9 (.slice (some ⟨g, off, none⟩) 8 c)).run Tryz.prog W = .ok (.string (strOfNums (b.take 8))) W := fun W hW => sl_txt (hst.keep hW)
      have e2 := e1 w (Below.refl _ _)
      have i1 : (8 : Int) ≤ (c : Int) := by omega
      have i1' : 8 ≤ c := by omega
      by_cases hh : b.take 8 = hd8
      · have HV : Hid (hf b = 0) := by show _ = _; unfold hf; rw [hn, if_neg h1, if_neg h2, if_neg (by simp [hh])]
        rw [HV.out]
        rw [hh, hd8_str] at e2
        clear hs hb hn h1 h2 HV hst e1 h4 hh
        go_enter Tryz.func63, Tryz.ntmps63
        go_wp2_with fail
        exact bodyPost_ret (v := .int .i64 0) (by simp [results, Tryz.results63, go_sem]) rfl ⟨rfl, Below.refl _ _⟩
      · have HV : Hid (hf b = 3) := by show _ = _; unfold hf; rw [hn, if_neg h1, if_neg h2, if_pos hh]
        rw [HV.out]
        have hne : ((strOfNums (b.take 8)).toList == (strOfNums hd8).toList) = false := by
          rw [Bool.eq_false_iff]
          intro e
          exact hh (txt_eq (fun x hx => hb x (List.mem_of_mem_take hx)) hd8_byte (by simpa using e))
        rw [hd8_str, hd8_list] at hne
        generalize strOfNums (b.take 8) = S1 at e2 hne
        clear hs hb hn h1 h2 HV hst e1 h4 hh
        go_enter Tryz.func63, Tryz.ntmps63
        go_wp2_with fail
        exact bodyPost_ret (v := .int .i64 3) (by simp [results, Tryz.results63, go_sem]) rfl ⟨rfl, Below.refl _ _⟩
end Go.Proofs.YtffegkjlgeblbaaGreatDoor.Sec
end

section
/- The program's reading of one section, walked. -/
namespace Go.Proofs.YtffegkjlgeblbaaGreatDoor.Sec
open Go.RowKit Utf
set_option maxRecDepth 100000
set_option maxHeartbeats 4000000
set_option linter.unusedVariables false
/-- The section that stands at a place, the place behind, the error. -/
noncomputable def rd1 (b : List Int) (k : Nat) : Sct × Int × Int :=
  if 11 < b.getD k 0 then ((0, []), 0, 3)
  else match Leb.rdl Leb.fitU 32 (b.drop (k + 1)) 0 0 with
    | .short => ((0, []), 0, 2)
    | .form => ((0, []), 0, 3)
    | .ok v m =>
      if b.length - (k + 1 + m / 7) < v then ((0, []), 0, 2)
      else if nf (b.getD k 0, (b.drop (k + 1 + m / 7)).take v) ≠ 0 then ((0, []), 0, nf (b.getD k 0, (b.drop (k + 1 + m / 7)).take v))
      else ((b.getD k 0, (b.drop (k + 1 + m / 7)).take v), ((k + 1 + m / 7 + v : Nat) : Int), 0)
/-- What read tells. -/
def RdTold (w : World) (R : Sct × Int × Int) (e : Ending) (w' : World) : Prop := (∃ g n c, e = .returned (.tuple #[.agg #[.int .i64 R.1.1, .slice g n c], .int .i64 R.2.1, .int .i64 R.2.2]) ∧ Dat w' w.heap.size (R.1, .slice g n c)) ∧ Below w.heap.size w w'
theorem dat_nil (w : World) (B : Nat) : Dat w B ((0, []), .slice none 0 0) := ⟨⟨rfl, .inl ⟨rfl, rfl⟩⟩, by simp⟩
theorem pread_any {g off n c k : Nat} {b : List Int} {w : World} (hn : b.length = n) (hs : Sl w (.slice (some ⟨g, off, none⟩) n c) b) (hb : ∀ x ∈ b, 0 ≤ x ∧ x < 256) (h1 : n ≤ 65536) (hc : n ≤ c) (hc9 : c ≤ 9223372036854775807) (hk : k < n) :
    Calls Tryz.prog 64 #[.slice (some ⟨g, off, none⟩) n c, .int .i64 (k : Int)] w (RdTold w (rd1 b k)) := by
  have HN := Lib.hid hn
  have HS := Lib.hid hs
  have HBB := Lib.hid hb
  obtain ⟨x, hx⟩ : ∃ x, b.getD k 0 = x := ⟨_, rfl⟩
  have hx1 : 0 ≤ x ∧ x < 256 := by
    rw [← hx, List.getD_eq_getElem?_getD, List.getElem?_eq_getElem (by omega)]
    exact hb _ (List.getElem_mem _)
  obtain ⟨hx0, hx6⟩ := hx1
  have HW0 := Lib.hid ((Below.refl w.heap.size w).alloc (Nat.le_refl _) (.cells #[.int .i64 0, .slice none 0 0] 54))
  have hgl : g < w.heap.size := by
    obtain ⟨A', c', e1, _, _, h4⟩ := id hs
    obtain ⟨g', off', e, hB, _⟩ := h4 (fun e => by rw [e] at hn; simp at hn; omega)
    injection e1 with e1 _ _
    rw [e] at e1
    simp only [Option.some.injEq, Addr.mk.injEq] at e1
    have := e1.1
    simp only at hB
    omega
  have hw0 : IntKind.i64.wrap x = x := IntWalk.i64_in _ (by omega)
  have hw1 : IntKind.i64.wrap ((k : Int) + 1) = (k : Int) + 1 := IntWalk.i64_in _ (by omega)
  have j1 : (k : Int) < (n : Int) := by omega
  have j0 : (0 : Int) ≤ (k : Int) := by omega
  obtain ⟨W0, hW0⟩ : ∃ W, w.alloc (.cells #[.int .i64 0, .slice none 0 0] 54) = W := ⟨_, rfl⟩
  have HHC : Hid (W0.heap[w.heap.size]? = some (.cells #[.int .i64 0, .slice none 0 0] 54)) := Lib.hid (by rw [← hW0]; exact heap_new w _)
  have HSZ : Hid (W0.heap.size = w.heap.size + 1) := Lib.hid (by rw [← hW0]; exact size_new1 w _)
  have c1 : W0.cell? ⟨g, off + k, none⟩ = some (.int .u8 x) := by rw [← hx, ← hW0]; exact sl_cell (hs.keep HW0.out) (by omega)
  rw [hW0] at HW0
  clear hs hb hn
  by_cases hx11 : 11 < x
  · have HV : Hid (rd1 b k = ((0, []), 0, 3)) := by show _ = _; unfold rd1; rw [hx, if_pos hx11]
    rw [HV.out]
    clear hx HV
    have z0 := (cells_at HHC.out 0).1
    have y0 := (cells_at HHC.out 0).2
    have z1 := (cells_at HHC.out 1).1
    have y1 := (cells_at HHC.out 1).2
    go_enter Tryz.func64, Tryz.ntmps64
    go_wp2_with fail
    refine bodyPost_ret (v := .tuple #[.agg #[.int .i64 0, .slice none 0 0], .int .i64 0, .int .i64 3]) (by simp [results, Tryz.results64, go_sem, z0, z1]) rfl ⟨⟨_, _, _, rfl, dat_nil _ _⟩, ?_⟩
    repeat (first | exact HW0.out | refine Below.setCell ?_ (by simp) _)
  · have hx11' : (11 < x) = False := by simp; omega
    obtain ⟨r, hr⟩ : ∃ r, Leb.rdl Leb.fitU 32 (b.drop (k + 1)) 0 0 = r := ⟨_, rfl⟩
    have HC : Hid (Calls Tryz.prog 111 #[.slice (some ⟨g, off, none⟩) n c, .int .i64 ((k : Int) + 1), .int .i64 32] (w.alloc (.cells #[.int .i64 0, .slice none 0 0] 54)) fun e w' => e = .returned (.tuple #[.int .u64 (Leb.uV r), .int .i64 (Leb.uP (k + 1) r), .int .i64 (Leb.uE r)]) ∧ Below (w.alloc (.cells #[.int .i64 0, .slice none 0 0] 54)).heap.size (w.alloc (.cells #[.int .i64 0, .slice none 0 0] 54)) w') := by
      have h := Leb.ReadU_is (some ⟨g, off, none⟩) c 32 (k + 1) b (w.alloc (.cells #[.int .i64 0, .slice none 0 0] 54)) (sl_byt (HS.out.keep ((Below.refl w.heap.size w).alloc (Nat.le_refl _) _))) (by rw [HN.out]; omega) (fun y hy => by have := HBB.out y hy; omega) (by omega) (by omega) (by rw [HN.out]; omega)
      rw [hr, HN.out] at h
      exact h
    rw [hW0] at HC
    cases r with
    | short =>
      have HV : Hid (rd1 b k = ((0, []), 0, 2)) := by show _ = _; unfold rd1; rw [hx, if_neg hx11, hr]
      rw [HV.out]
      clear hx HV hr
      go_enter Tryz.func64, Tryz.ntmps64
      go_wp2_with fail
      refine HC.out.mono ?_
      rintro en w1 ⟨rfl, hb1⟩
      have hc : w1.heap[w.heap.size]? = some (.cells #[.int .i64 0, .slice none 0 0] 54) := (hb1.block _ (by rw [HSZ.out]; omega)).trans HHC.out
      have z0 := (cells_at hc 0).1
      have y0 := (cells_at hc 0).2
      have z1 := (cells_at hc 1).1
      have y1 := (cells_at hc 1).2
      have HB1 : Hid (Below w.heap.size w w1) := Lib.hid (HW0.out.trans (hb1.mono HW0.out.size))
      clear hb1 hc
      simp only [Leb.uV, Leb.uP, Leb.uE]
      go_wp2_with fail
      refine bodyPost_ret (v := .tuple #[.agg #[.int .i64 0, .slice none 0 0], .int .i64 0, .int .i64 2]) (by simp [results, Tryz.results64, go_sem, z0, z1]) rfl ⟨⟨_, _, _, rfl, dat_nil _ _⟩, ?_⟩
      repeat (first | exact HB1.out | refine Below.setCell ?_ (by simp) _)
    | form =>
      have HV : Hid (rd1 b k = ((0, []), 0, 3)) := by show _ = _; unfold rd1; rw [hx, if_neg hx11, hr]
      rw [HV.out]
      clear hx HV hr
      go_enter Tryz.func64, Tryz.ntmps64
      go_wp2_with fail
      refine HC.out.mono ?_
      rintro en w1 ⟨rfl, hb1⟩
      have hc : w1.heap[w.heap.size]? = some (.cells #[.int .i64 0, .slice none 0 0] 54) := (hb1.block _ (by rw [HSZ.out]; omega)).trans HHC.out
      have z0 := (cells_at hc 0).1
      have y0 := (cells_at hc 0).2
      have z1 := (cells_at hc 1).1
      have y1 := (cells_at hc 1).2
      have HB1 : Hid (Below w.heap.size w w1) := Lib.hid (HW0.out.trans (hb1.mono HW0.out.size))
      clear hb1 hc
      simp only [Leb.uV, Leb.uP, Leb.uE]
      go_wp2_with fail
      refine bodyPost_ret (v := .tuple #[.agg #[.int .i64 0, .slice none 0 0], .int .i64 0, .int .i64 3]) (by simp [results, Tryz.results64, go_sem, z0, z1]) rfl ⟨⟨_, _, _, rfl, dat_nil _ _⟩, ?_⟩
      repeat (first | exact HB1.out | refine Below.setCell ?_ (by simp) _)
    | ok v m =>
      have hp0 := rdl_le (k := k) (by rw [HN.out]; exact hk) hr
      rw [HN.out] at hp0
      have HQ : Hid (rd1 b k = if n - (k + 1 + m / 7) < v then ((0, []), 0, 2)
      else if nf (x, (b.drop (k + 1 + m / 7)).take v) ≠ 0 then ((0, []), 0, nf (x, (b.drop (k + 1 + m / 7)).take v))
      else ((x, (b.drop (k + 1 + m / 7)).take v), ((k + 1 + m / 7 + v : Nat) : Int), 0)) := by
        show _ = _
        unfold rd1
        rw [hx, if_neg hx11, hr, HN.out]
      replace HC : Hid (Calls Tryz.prog 111 #[.slice (some ⟨g, off, none⟩) n c, .int .i64 ((k : Int) + 1), .int .i64 32] W0 fun e w' => e = .returned (.tuple #[.int .u64 (v : Int), .int .i64 ((k + 1 + m / 7 : Nat) : Int), .int .i64 0]) ∧ Below W0.heap.size W0 w') := HC.out
      clear hr hx
      revert HC HQ hp0
      generalize k + 1 + m / 7 = p
      intro hp0 HQ HC
      have hu1 : IntKind.u64.wrap ((n : Int) - (p : Int)) = (n : Int) - (p : Int) := IntWalk.u64_in _ (by omega)
      have hi1 : IntKind.i64.wrap ((n : Int) - (p : Int)) = (n : Int) - (p : Int) := IntWalk.i64_in _ (by omega)
      by_cases hv : n - p < v
      · rw [HQ.out, if_pos hv]
        have hvt : decide ((n : Int) - (p : Int) < (v : Int)) = true := decide_eq_true (by omega)
        clear HQ
        go_enter Tryz.func64, Tryz.ntmps64
        go_wp2_with fail
        refine HC.out.mono ?_
        rintro en w1 ⟨rfl, hb1⟩
        have hc : w1.heap[w.heap.size]? = some (.cells #[.int .i64 0, .slice none 0 0] 54) := (hb1.block _ (by rw [HSZ.out]; omega)).trans HHC.out
        have z0 := (cells_at hc 0).1
        have y0 := (cells_at hc 0).2
        have z1 := (cells_at hc 1).1
        have y1 := (cells_at hc 1).2
        have HB1 : Hid (Below w.heap.size w w1) := Lib.hid (HW0.out.trans (hb1.mono HW0.out.size))
        clear hb1 hc
        go_wp2_with fail
        refine bodyPost_ret (v := .tuple #[.agg #[.int .i64 0, .slice none 0 0], .int .i64 0, .int .i64 2]) (by simp [results, Tryz.results64, go_sem, z0, z1]) rfl ⟨⟨_, _, _, rfl, dat_nil _ _⟩, ?_⟩
        repeat (first | exact HB1.out | refine Below.setCell ?_ (by simp) _)
      · rw [if_neg hv] at HQ
        have hvt : decide ((n : Int) - (p : Int) < (v : Int)) = false := decide_eq_false (by omega)
        obtain ⟨D, hD⟩ : ∃ D, (b.drop p).take v = D := ⟨_, rfl⟩
        have hDl : D.length = v := by rw [← hD, List.length_take, List.length_drop, HN.out]; omega
        have hDb : ∀ y ∈ D, 0 ≤ y ∧ y < 256 := fun y hy => HBB.out y (by rw [← hD] at hy; exact List.mem_of_mem_drop (List.mem_of_mem_take hy))
        have HDL := Lib.hid hDl
        have HDB := Lib.hid hDb
        have HDA : Hid (Leb.Byt w w.heap.size (some ⟨g, off + p, none⟩) D) := Lib.hid (by rw [← hD]; exact drop_byt HS.out)
        rw [hD] at HQ
        clear hDl hDb hD
        have hi2 : IntKind.i64.wrap (v : Int) = (v : Int) := IntWalk.i64_in _ (by omega)
        have hi3 : IntKind.i64.wrap ((p : Int) + (v : Int)) = (p : Int) + (v : Int) := IntWalk.i64_in _ (by omega)
        have hvp : p + v ≤ n := by omega
        have HD0 : Hid (v = 0 → D = []) := Lib.hid fun e => List.length_eq_zero_iff.1 (HDL.out.trans e)
        obtain ⟨F, hF⟩ : ∃ F, nf (x, D) = F := ⟨_, rfl⟩
        have HF := Lib.hid hF
        rw [hF] at HQ
        clear hF
        rcases Classical.em (c = p) with hcp | hcp
        · subst hcp
          go_enter Tryz.func64, Tryz.ntmps64
          go_wp2_with fail
          refine HC.out.mono ?_
          rintro en w1 ⟨rfl, hb1⟩
          have HHC1 : Hid (w1.heap[w.heap.size]? = some (.cells #[.int .i64 0, .slice none 0 0] 54)) := Lib.hid ((hb1.block _ (by rw [HSZ.out]; omega)).trans HHC.out)
          have HB1 : Hid (Below w.heap.size w w1) := Lib.hid (HW0.out.trans (hb1.mono HW0.out.size))
          have HS1 : Hid (w.heap.size < w1.heap.size) := Lib.hid (by have := hb1.size; rw [HSZ.out] at this; omega)
          clear hb1
          go_wp2_with fail
          refine (pclone_any (D := D) (by have := HDL.out; omega) (by rw [HD0.out (by omega)]; exact Leb.byt_nil _ _ _) (by omega)).mono ?_
          rintro en w2 ⟨⟨g2, n2, c2, rfl, ho2, hn2⟩, hb2⟩
          have HHC2 : Hid (w2.heap[w.heap.size]? = some (.cells #[.int .i64 0, .slice none 0 0] 54)) := Lib.hid ((hb2.block _ HS1.out).trans HHC1.out)
          have HB2 : Hid (Below w.heap.size w w2) := Lib.hid (HB1.out.trans (hb2.mono HB1.out.size))
          have HD2 : Hid (Dat w2 w1.heap.size ((x, D), .slice g2 n2 c2)) := Lib.hid ⟨ho2, HDB.out⟩
          have HN2 : Hid (D.length = n2) := Lib.hid hn2.symm
          have HS2 : Hid (w.heap.size < w2.heap.size) := Lib.hid (by have := hb2.size; have := HS1.out; omega)
          clear ho2 hn2 hb2
          have HA2 := Lib.hid ((Below.refl w2.heap.size w2).alloc (Nat.le_refl _) (.cells #[.int .i64 x, .slice g2 n2 c2] 54))
          go_wp2_with fail
          refine (pnf_any (x := x) (D := D) HN2.out (HD2.out.ok.1.keep HA2.out) HDB.out (by have := HDL.out; have := HN2.out; omega)).mono ?_
          rintro en w4 ⟨rfl, hb4⟩
          rw [HF.out]
          have hc4 : w4.heap[w.heap.size]? = some (.cells #[.int .i64 0, .slice none 0 0] 54) := (hb4.block _ (by have := HS2.out; rw [size_new1]; omega)).trans ((HA2.out.block _ HS2.out).trans HHC2.out)
          have hd4 : w4.heap[w2.heap.size]? = some (.cells #[.int .i64 x, .slice g2 n2 c2] 54) := (hb4.block _ (by rw [size_new1]; omega)).trans (heap_new w2 _)
          have z0 := (cells_at hc4 0).1
          have y0 := (cells_at hc4 0).2
          have z1 := (cells_at hc4 1).1
          have y1 := (cells_at hc4 1).2
          have q0 := (cells_at hd4 0).1
          have q1 := (cells_at hd4 1).1
          have HB4w2 : Hid (Below w2.heap.size w2 w4) := Lib.hid (HA2.out.trans (hb4.mono HA2.out.size))
          have HB4 : Hid (Below w.heap.size w w4) := Lib.hid (HB2.out.trans (HB4w2.out.mono HB2.out.size))
          have HD4 : Hid (Dat w4 w1.heap.size ((x, D), .slice g2 n2 c2)) := Lib.hid ⟨own_keep HD2.out.1 HB4w2.out, HDB.out⟩
          clear hb4 hc4 hd4
          by_cases hF0 : F = 0
          · subst hF0
            have HV : Hid (rd1 b k = ((x, D), ((c + v : Nat) : Int), 0)) := Lib.hid (by rw [HQ.out, if_neg (by simp)])
            clear HQ
            go_wp2_with fail
            refine bodyPost_ret (v := .tuple #[.agg #[.int .i64 x, .slice g2 n2 c2], .int .i64 ((c : Int) + (v : Int)), .int .i64 0]) (by simp [results, Tryz.results64, go_sem, z0, z1]) rfl ⟨⟨g2, n2, c2, by rw [HV.out]; rfl, ?_⟩, ?_⟩
            · rw [HV.out]
              refine ⟨own_stay (own_low HD4.out.1 HB1.out.size) fun k' hk' => ?_, HDB.out⟩
              have hkk := (World.ownsRow.lt HD4.out.1 k' hk').1
              have := HS1.out
              repeat rw [Below.heap_setCell _ _ _ _ (by simp only; omega)]
            · repeat (first | exact HB4.out | refine Below.setCell ?_ (by simp) _)
          · have hF1 : (F != 0) = true := by simpa using hF0
            have HV : Hid (rd1 b k = ((0, []), 0, F)) := Lib.hid (by rw [HQ.out, if_pos hF0])
            clear HQ
            go_wp2_with fail
            refine bodyPost_ret (v := .tuple #[.agg #[.int .i64 0, .slice none 0 0], .int .i64 0, .int .i64 F]) (by simp [results, Tryz.results64, go_sem, z0, z1]) rfl ⟨⟨_, _, _, by rw [HV.out], by rw [HV.out]; exact dat_nil _ _⟩, ?_⟩
            repeat (first | exact HB4.out | refine Below.setCell ?_ (by simp) _)
        · go_enter Tryz.func64, Tryz.ntmps64
          go_wp2_with fail
          refine HC.out.mono ?_
          rintro en w1 ⟨rfl, hb1⟩
          have HHC1 : Hid (w1.heap[w.heap.size]? = some (.cells #[.int .i64 0, .slice none 0 0] 54)) := Lib.hid ((hb1.block _ (by rw [HSZ.out]; omega)).trans HHC.out)
          have HB1 : Hid (Below w.heap.size w w1) := Lib.hid (HW0.out.trans (hb1.mono HW0.out.size))
          have HS1 : Hid (w.heap.size < w1.heap.size) := Lib.hid (by have := hb1.size; rw [HSZ.out] at this; omega)
          clear hb1
          go_wp2_with fail
          refine (pclone_any (D := D) (by have := HDL.out; omega) ((HDA.out.keep HB1.out).mono HB1.out.size) (by omega)).mono ?_
          rintro en w2 ⟨⟨g2, n2, c2, rfl, ho2, hn2⟩, hb2⟩
          have HHC2 : Hid (w2.heap[w.heap.size]? = some (.cells #[.int .i64 0, .slice none 0 0] 54)) := Lib.hid ((hb2.block _ HS1.out).trans HHC1.out)
          have HB2 : Hid (Below w.heap.size w w2) := Lib.hid (HB1.out.trans (hb2.mono HB1.out.size))
          have HD2 : Hid (Dat w2 w1.heap.size ((x, D), .slice g2 n2 c2)) := Lib.hid ⟨ho2, HDB.out⟩
          have HN2 : Hid (D.length = n2) := Lib.hid hn2.symm
          have HS2 : Hid (w.heap.size < w2.heap.size) := Lib.hid (by have := hb2.size; have := HS1.out; omega)
          clear ho2 hn2 hb2
          have HA2 := Lib.hid ((Below.refl w2.heap.size w2).alloc (Nat.le_refl _) (.cells #[.int .i64 x, .slice g2 n2 c2] 54))
          go_wp2_with fail
          refine (pnf_any (x := x) (D := D) HN2.out (HD2.out.ok.1.keep HA2.out) HDB.out (by have := HDL.out; have := HN2.out; omega)).mono ?_
          rintro en w4 ⟨rfl, hb4⟩
          rw [HF.out]
          have hc4 : w4.heap[w.heap.size]? = some (.cells #[.int .i64 0, .slice none 0 0] 54) := (hb4.block _ (by have := HS2.out; rw [size_new1]; omega)).trans ((HA2.out.block _ HS2.out).trans HHC2.out)
          have hd4 : w4.heap[w2.heap.size]? = some (.cells #[.int .i64 x, .slice g2 n2 c2] 54) := (hb4.block _ (by rw [size_new1]; omega)).trans (heap_new w2 _)
          have z0 := (cells_at hc4 0).1
          have y0 := (cells_at hc4 0).2
          have z1 := (cells_at hc4 1).1
          have y1 := (cells_at hc4 1).2
          have q0 := (cells_at hd4 0).1
          have q1 := (cells_at hd4 1).1
          have HB4w2 : Hid (Below w2.heap.size w2 w4) := Lib.hid (HA2.out.trans (hb4.mono HA2.out.size))
          have HB4 : Hid (Below w.heap.size w w4) := Lib.hid (HB2.out.trans (HB4w2.out.mono HB2.out.size))
          have HD4 : Hid (Dat w4 w1.heap.size ((x, D), .slice g2 n2 c2)) := Lib.hid ⟨own_keep HD2.out.1 HB4w2.out, HDB.out⟩
          clear hb4 hc4 hd4
          by_cases hF0 : F = 0
          · subst hF0
            have HV : Hid (rd1 b k = ((x, D), ((p + v : Nat) : Int), 0)) := Lib.hid (by rw [HQ.out, if_neg (by simp)])
            clear HQ
            go_wp2_with fail
            refine bodyPost_ret (v := .tuple #[.agg #[.int .i64 x, .slice g2 n2 c2], .int .i64 ((p : Int) + (v : Int)), .int .i64 0]) (by simp [results, Tryz.results64, go_sem, z0, z1]) rfl ⟨⟨g2, n2, c2, by rw [HV.out]; rfl, ?_⟩, ?_⟩
            · rw [HV.out]
              refine ⟨own_stay (own_low HD4.out.1 HB1.out.size) fun k' hk' => ?_, HDB.out⟩
              have hkk := (World.ownsRow.lt HD4.out.1 k' hk').1
              have := HS1.out
              repeat rw [Below.heap_setCell _ _ _ _ (by simp only; omega)]
            · repeat (first | exact HB4.out | refine Below.setCell ?_ (by simp) _)
          · have hF1 : (F != 0) = true := by simpa using hF0
            have HV : Hid (rd1 b k = ((0, []), 0, F)) := Lib.hid (by rw [HQ.out, if_pos hF0])
            clear HQ
            go_wp2_with fail
            refine bodyPost_ret (v := .tuple #[.agg #[.int .i64 0, .slice none 0 0], .int .i64 0, .int .i64 F]) (by simp [results, Tryz.results64, go_sem, z0, z1]) rfl ⟨⟨_, _, _, by rw [HV.out], by rw [HV.out]; exact dat_nil _ _⟩, ?_⟩
            repeat (first | exact HB4.out | refine Below.setCell ?_ (by simp) _)
end Go.Proofs.YtffegkjlgeblbaaGreatDoor.Sec
end
