/- ModEnc, ModAwM, ModAwW, ModPA. -/
import Derived.Test.YtffegkjlgeblbaaGreatDoorPkModWR
import Derived.Test.YtffegkjlgeblbaaGreatDoorPkModWLFuncType
import Derived.Test.YtffegkjlgeblbaaGreatDoorPkModSEImport
import Derived.Test.YtffegkjlgeblbaaGreatDoorPkModWLImport
import Derived.Test.YtffegkjlgeblbaaGreatDoorPkModWLCode
import Derived.Test.YtffegkjlgeblbaaGreatDoorPkModBk3
import Derived.Test.YtffegkjlgeblbaaGreatDoorPkModWEn
import Derived.Test.YtffegkjlgeblbaaGreatDoorPkSecPH
section
/- A module laid by the program, whatever it is: walked. -/
namespace Go.Proofs.YtffegkjlgeblbaaGreatDoor.Mdl
open Go.RowKit Ints Typ Ins
set_option maxRecDepth 100000
set_option maxHeartbeats 4000000
set_option linter.unusedVariables false
theorem sec_laid {α β : Type} {L : List α} {L' : List β} (pl : α → β) (hL : L' = L.map pl) (f : β → List Int) (okf : β → Bool) (m : Int) (h0 : 0 < L.length) :
    someB L' f = Leb.uB L.length ++ L.flatMap (fun p => f (pl p)) ∧ okL8 L' m okf = (decide ((L.length : Int) ≤ m) && L.all fun p => okf (pl p)) := by
  subst hL
  refine ⟨?_, ?_⟩
  · unfold someB
    rw [if_neg (by intro e; rw [List.map_eq_nil_iff] at e; rw [e] at h0; simp at h0), List.length_map, List.flatMap_map]
  · unfold okL8
    rw [List.length_map, List.all_map]
    rfl
theorem sec_void {β : Type} {L' : List β} (h : L' = []) (f : β → List Int) (okf : β → Bool) {m : Int} (hm : 0 ≤ m) : someB L' f = [] ∧ okL8 L' m okf = true := by
  subst h
  refine ⟨rfl, ?_⟩
  unfold okL8
  rw [decide_eq_true (by simpa using hm)]
  rfl
structure Sml (m : ModT) : Prop where
  types : m.types.length ≤ 100000 ∧ ∀ p ∈ m.types, p.1.1.length ≤ 1000 ∧ p.2.1.length ≤ 1000
  imps : m.imps.length ≤ 100000 ∧ ∀ p ∈ m.imps, p.md.size ≤ 1000 ∧ p.nm.size ≤ 1000
  funcs : m.funcs.length ≤ 100000
  tabs : m.tabs.length ≤ 100000
  mems : m.mems.length ≤ 100000
  globs : m.globs.length ≤ 100000
  exps : m.exps.length ≤ 100000 ∧ ∀ p ∈ m.exps, p.1.size ≤ 1000
  elems : m.elems.length ≤ 100000 ∧ ∀ p ∈ m.elems, p.2.1.length ≤ 100000
  codes : m.codes.length ≤ 100000 ∧ ∀ p ∈ m.codes, p.1.1.length ≤ 10000
  datas : m.datas.length ≤ 100000 ∧ ∀ p ∈ m.datas, p.2.1.length ≤ 1000000
theorem fit_at {w : World} {v : Value} {m : ModT} (h : ModAt w v m) : FitP (plainM m) ∧ ∀ p ∈ (plainM m).datas, Bys p.2 := by
  obtain ⟨vt, vi, vf, va, vm, vg, vx, ve, vc, vd, e, r1, r2, r3, r4, r5, r6, r7, r8, r9, r10, r11⟩ := h
  refine ⟨⟨fun p hp => ?_, fun p hp => ?_, fun p hp x hx => ?_, fun p hp => ?_⟩, fun p hp => ?_⟩
  · obtain ⟨q, hq, rfl⟩ := List.mem_map.1 hp
    exact (r6.2 q hq).2.2
  · obtain ⟨q, hq, rfl⟩ := List.mem_map.1 hp
    exact (r9.2 q hq).1.2
  · obtain ⟨q, hq, rfl⟩ := List.mem_map.1 hp
    obtain ⟨y, hy, rfl⟩ := List.mem_map.1 hx
    exact ((r10.2 q hq).2.2 y hy).2
  · obtain ⟨q, hq, rfl⟩ := List.mem_map.1 hp
    exact (r11.2 q hq).1.2
  · obtain ⟨q, hq, rfl⟩ := List.mem_map.1 hp
    exact (r11.2 q hq).2.2
theorem plaid_any {w : World} {v : Value} {m : ModT} (hT : KTab w) (h : ModAt w v m) (hs0 : Sml m) (W : World) (hbW : Below w.heap.size w W) :
    Calls Tryz.prog 44 #[v] W (LaidTold (okP (plainM m)) (encP (plainM m)) W) := by
  obtain ⟨hfit, hdat⟩ := fit_at h
  have h' := h.keep hbW
  have hT' := hT.keep hbW
  clear h hT
  have hTg := hT'.1
  obtain ⟨vt, vi, vf, va, vm, vg, vx, ve, vc, vd, rfl, r1, r2, r3, r4, r5, r6, r7, r8, r9, r10, r11⟩ := h'
  obtain ⟨A0, c0, rfl⟩ := row_len r1
  obtain ⟨A1, c1, rfl⟩ := row_len r2
  obtain ⟨A2, c2, rfl, hj⟩ := id r3
  clear hj
  obtain ⟨A3, c3, rfl⟩ := row_len r4
  obtain ⟨A4, c4, rfl⟩ := row_len r5
  obtain ⟨A5, c5', rfl⟩ := row_len r6
  obtain ⟨A6, c6, rfl⟩ := row_len r7
  obtain ⟨A8, c8, rfl⟩ := row_len r9
  obtain ⟨A9, c9, rfl⟩ := row_len r10
  obtain ⟨A10, c10, rfl⟩ := row_len r11
  have HL := laid_any (w := W) (A2 := A2) (A9 := A9) (nf := m.funcs.length) (c2 := c2) (nc := m.codes.length) (c9 := c9) (.slice A0 m.types.length c0) (.slice A1 m.imps.length c1) (.slice A3 m.tabs.length c3) (.slice A4 m.mems.length c4) (.slice A5 m.globs.length c5') (.slice A6 m.exps.length c6) (.int .i64 m.start) (.slice A8 m.elems.length c8) (.slice A10 m.datas.length c10)
    (secO (plainM m)) (secF (plainM m)) (fun k hk => secF_by hfit hdat k hk) ?_
  · unfold okP encP
    rw [show (plainM m).codes.length = m.codes.length from by simp [plainM], show (plainM m).funcs.length = m.funcs.length from rfl]
    exact HL
  · intro k hk W1 g hb1 hg hs
    match k, hk with
    | 0, _ =>
      refine wsec_1 _ _ _ _ _ _ _ _ _ _ _ hs (fun W2 hb2 hs2 => ?_)
      rcases Nat.eq_zero_or_pos m.types.length with h0 | h0
      · obtain ⟨e1, e2⟩ := sec_void (L' := (plainM m).types) (by simp [plainM, List.length_eq_zero_iff.1 h0]) ftB okT (m := 64) (by decide)
        rw [show secF (plainM m) (0 + 1) = [] from e1, show secO (plainM m) (0 + 1) = true from e2, h0]
        exact (wnone_FuncType _ _ _).mono fun en w' h => by obtain ⟨rfl, rfl⟩ := h; exact WTold.same hs2
      · obtain ⟨e1, e2⟩ := sec_laid (L := m.types) (L' := (plainM m).types) (fun p : FunT => (p.1.1, p.2.1)) rfl ftB okT 64 h0
        rw [show secF (plainM m) (0 + 1) = _ from e1, show secO (plainM m) (0 + 1) = _ from e2]
        exact wsome_FuncType (fun p => okT ((fun p : FunT => (p.1.1, p.2.1)) p)) (fun p => ftB ((fun p : FunT => (p.1.1, p.2.1)) p)) 64 145 (g := g) hs2 r1 (hb1.trans (hb2.mono hb1.size)) hg hs0.types.1 h0 (fun args W => Stab.run_enter Tryz.func145 (by kernel_rfl) rfl args W) (fun W3 b' bad' p hp hs3 hb3 => wfun ((r1.2 p hp).1.1.keep hb3) ((r1.2 p hp).2.1.keep hb3) (hs0.types.2 p hp).1 (hs0.types.2 p hp).2 hs3)
    | 1, _ =>
      refine wsec_2 _ _ _ _ _ _ _ _ _ _ _ hs (fun W2 hb2 hs2 => ?_)
      rcases Nat.eq_zero_or_pos m.imps.length with h0 | h0
      · obtain ⟨e1, e2⟩ := sec_void (L' := (plainM m).imps) (by simp [plainM, List.length_eq_zero_iff.1 h0]) impB okI (m := 64) (by decide)
        rw [show secF (plainM m) (1 + 1) = [] from e1, show secO (plainM m) (1 + 1) = true from e2, h0]
        exact (wnone_Import _ _ _).mono fun en w' h => by obtain ⟨rfl, rfl⟩ := h; exact WTold.same hs2
      · obtain ⟨e1, e2⟩ := sec_laid (L := m.imps) (L' := (plainM m).imps) (fun p : ImpT => p) (List.map_id' _).symm impB okI 64 h0
        rw [show secF (plainM m) (1 + 1) = _ from e1, show secO (plainM m) (1 + 1) = _ from e2]
        exact wsome_Import (fun p => okI ((fun p : ImpT => p) p)) (fun p => impB ((fun p : ImpT => p) p)) 64 147 (g := g) hs2 r2 (hb1.trans (hb2.mono hb1.size)) hg hs0.imps.1 h0 (fun args W => Stab.run_enter Tryz.func147 (by kernel_rfl) rfl args W) (fun W3 b' bad' p hp hs3 hb3 => wimported p (hs0.imps.2 p hp).1 (hs0.imps.2 p hp).2 hs3)
    | 2, _ =>
      refine wsec_3 _ _ _ _ _ _ _ _ _ _ _ hs (fun W2 hb2 hs2 => ?_)
      rcases Nat.eq_zero_or_pos m.funcs.length with h0 | h0
      · obtain ⟨e1, e2⟩ := sec_void (L' := (plainM m).funcs) (by simp [plainM, List.length_eq_zero_iff.1 h0]) numB okU (m := 128) (by decide)
        rw [show secF (plainM m) (2 + 1) = [] from e1, show secO (plainM m) (2 + 1) = true from e2, h0]
        exact (wnone_int _ _ _).mono fun en w' h => by obtain ⟨rfl, rfl⟩ := h; exact WTold.same hs2
      · obtain ⟨e1, e2⟩ := sec_laid (L := m.funcs) (L' := (plainM m).funcs) (fun p : Int => p) (List.map_id' _).symm numB okU 128 h0
        rw [show secF (plainM m) (2 + 1) = _ from e1, show secO (plainM m) (2 + 1) = _ from e2]
        exact wsome_int 128 hs2 r3 (hb1.trans (hb2.mono hb1.size)) hg hs0.funcs h0
    | 3, _ =>
      refine wsec_4 _ _ _ _ _ _ _ _ _ _ _ hs (fun W2 hb2 hs2 => ?_)
      rcases Nat.eq_zero_or_pos m.tabs.length with h0 | h0
      · obtain ⟨e1, e2⟩ := sec_void (L' := (plainM m).tabs) (by simp [plainM, List.length_eq_zero_iff.1 h0]) tabB okLm (m := 32) (by decide)
        rw [show secF (plainM m) (3 + 1) = [] from e1, show secO (plainM m) (3 + 1) = true from e2, h0]
        exact (wnone_Limits _ _ _).mono fun en w' h => by obtain ⟨rfl, rfl⟩ := h; exact WTold.same hs2
      · obtain ⟨e1, e2⟩ := sec_laid (L := m.tabs) (L' := (plainM m).tabs) (fun p : LimT => p) (List.map_id' _).symm tabB okLm 32 h0
        rw [show secF (plainM m) (3 + 1) = _ from e1, show secO (plainM m) (3 + 1) = _ from e2]
        exact wsome_Limits (fun p => okLm ((fun p : LimT => p) p)) (fun p => tabB ((fun p : LimT => p) p)) 32 151 (g := g) hs2 r4 (hb1.trans (hb2.mono hb1.size)) hg hs0.tabs h0 (fun args W => Stab.run_enter Tryz.func151 (by kernel_rfl) rfl args W) (fun W3 b' bad' p hp hs3 hb3 => wtab p.1 p.2.1 p.2.2 hs3)
    | 4, _ =>
      refine wsec_5 _ _ _ _ _ _ _ _ _ _ _ hs (fun W2 hb2 hs2 => ?_)
      rcases Nat.eq_zero_or_pos m.mems.length with h0 | h0
      · obtain ⟨e1, e2⟩ := sec_void (L' := (plainM m).mems) (by simp [plainM, List.length_eq_zero_iff.1 h0]) lmB okLm (m := 32) (by decide)
        rw [show secF (plainM m) (4 + 1) = [] from e1, show secO (plainM m) (4 + 1) = true from e2, h0]
        exact (wnone_Limits _ _ _).mono fun en w' h => by obtain ⟨rfl, rfl⟩ := h; exact WTold.same hs2
      · obtain ⟨e1, e2⟩ := sec_laid (L := m.mems) (L' := (plainM m).mems) (fun p : LimT => p) (List.map_id' _).symm lmB okLm 32 h0
        rw [show secF (plainM m) (4 + 1) = _ from e1, show secO (plainM m) (4 + 1) = _ from e2]
        exact wsome_Limits (fun p => okLm ((fun p : LimT => p) p)) (fun p => lmB ((fun p : LimT => p) p)) 32 152 (g := g) hs2 r5 (hb1.trans (hb2.mono hb1.size)) hg hs0.mems h0 (fun args W => Stab.run_enter Tryz.func152 (by kernel_rfl) rfl args W) (fun W3 b' bad' p hp hs3 hb3 => wlim p.1 p.2.1 p.2.2 hs3)
    | 5, _ =>
      refine wsec_6 _ _ _ _ _ _ _ _ _ _ _ hs (fun W2 hb2 hs2 => ?_)
      rcases Nat.eq_zero_or_pos m.globs.length with h0 | h0
      · obtain ⟨e1, e2⟩ := sec_void (L' := (plainM m).globs) (by simp [plainM, List.length_eq_zero_iff.1 h0]) glbB okG (m := 64) (by decide)
        rw [show secF (plainM m) (5 + 1) = [] from e1, show secO (plainM m) (5 + 1) = true from e2, h0]
        exact (wnone_GlobalDef _ _ _).mono fun en w' h => by obtain ⟨rfl, rfl⟩ := h; exact WTold.same hs2
      · obtain ⟨e1, e2⟩ := sec_laid (L := m.globs) (L' := (plainM m).globs) (fun p : GlbT => (p.1, p.2.1, p.2.2.1)) rfl glbB okG 64 h0
        rw [show secF (plainM m) (5 + 1) = _ from e1, show secO (plainM m) (5 + 1) = _ from e2]
        exact wsome_GlobalDef (fun p => okG ((fun p : GlbT => (p.1, p.2.1, p.2.2.1)) p)) (fun p => glbB ((fun p : GlbT => (p.1, p.2.1, p.2.2.1)) p)) 64 154 (g := g) hs2 r6 (hb1.trans (hb2.mono hb1.size)) hg hs0.globs h0 (fun args W => Stab.run_enter Tryz.func154 (by kernel_rfl) rfl args W) (fun W3 b' bad' p hp hs3 hb3 => by have := wglobal (w0 := W) p.1 p.2.1 hT' hTg (r6.2 p hp).2 hb3 hg hs3; rw [Bool.and_true] at this; exact this)
    | 6, _ =>
      refine wsec_7 _ _ _ _ _ _ _ _ _ _ _ hs (fun W2 hb2 hs2 => ?_)
      rcases Nat.eq_zero_or_pos m.exps.length with h0 | h0
      · obtain ⟨e1, e2⟩ := sec_void (L' := (plainM m).exps) (by simp [plainM, List.length_eq_zero_iff.1 h0]) expB okE (m := 64) (by decide)
        rw [show secF (plainM m) (6 + 1) = [] from e1, show secO (plainM m) (6 + 1) = true from e2, h0]
        exact (wnone_Export _ _ _).mono fun en w' h => by obtain ⟨rfl, rfl⟩ := h; exact WTold.same hs2
      · obtain ⟨e1, e2⟩ := sec_laid (L := m.exps) (L' := (plainM m).exps) (fun p : ExpT => p) (List.map_id' _).symm expB okE 64 h0
        rw [show secF (plainM m) (6 + 1) = _ from e1, show secO (plainM m) (6 + 1) = _ from e2]
        exact wsome_Export (fun p => okE ((fun p : ExpT => p) p)) (fun p => expB ((fun p : ExpT => p) p)) 64 156 (g := g) hs2 r7 (hb1.trans (hb2.mono hb1.size)) hg hs0.exps.1 h0 (fun args W => Stab.run_enter Tryz.func156 (by kernel_rfl) rfl args W) (fun W3 b' bad' p hp hs3 hb3 => wexport p.1 p.2.1 p.2.2 (hs0.exps.2 p hp) hs3)
    | 7, _ =>
      refine wsec_8 _ _ _ _ _ _ _ _ _ _ _ hs (fun W2 hb2 hs2 => ?_)
      by_cases h0 : m.start = -1
      · have e1 : secF (plainM m) (7 + 1) = [] := if_pos h0
        have e2 : secO (plainM m) (7 + 1) = true := by
          show (decide (m.start = -1) || okU m.start) = true
          rw [decide_eq_true h0]
          rfl
        rw [e1, e2, h0]
        exact (wstart_none _).mono fun en w' h => by obtain ⟨rfl, rfl⟩ := h; exact WTold.same hs2
      · have e1 : secF (plainM m) (7 + 1) = numB m.start := if_neg h0
        have e2 : secO (plainM m) (7 + 1) = okU m.start := by
          show (decide (m.start = -1) || okU m.start) = okU m.start
          rw [decide_eq_false h0]
          rfl
        rw [e1, e2]
        exact wstart m.start h0 hs2
    | 8, _ =>
      refine wsec_9 _ _ _ _ _ _ _ _ _ _ _ hs (fun W2 hb2 hs2 => ?_)
      rcases Nat.eq_zero_or_pos m.elems.length with h0 | h0
      · obtain ⟨e1, e2⟩ := sec_void (L' := (plainM m).elems) (by simp [plainM, List.length_eq_zero_iff.1 h0]) elmB okM (m := 32) (by decide)
        rw [show secF (plainM m) (8 + 1) = [] from e1, show secO (plainM m) (8 + 1) = true from e2, h0]
        exact (wnone_Elem _ _ _).mono fun en w' h => by obtain ⟨rfl, rfl⟩ := h; exact WTold.same hs2
      · obtain ⟨e1, e2⟩ := sec_laid (L := m.elems) (L' := (plainM m).elems) (fun p : ElmT => (p.1.1, p.2.1)) rfl elmB okM 32 h0
        rw [show secF (plainM m) (8 + 1) = _ from e1, show secO (plainM m) (8 + 1) = _ from e2]
        exact wsome_Elem (fun p => okM ((fun p : ElmT => (p.1.1, p.2.1)) p)) (fun p => elmB ((fun p : ElmT => (p.1.1, p.2.1)) p)) 32 159 (g := g) hs2 r9 (hb1.trans (hb2.mono hb1.size)) hg hs0.elems.1 h0 (fun args W => Stab.run_enter Tryz.func159 (by kernel_rfl) rfl args W) (fun W3 b' bad' p hp hs3 hb3 => welem (w0 := W) hT' hTg (r9.2 p hp).1 (r9.2 p hp).2 (hs0.elems.2 p hp) hb3 hg hs3)
    | 9, _ =>
      refine wsec_10 _ _ _ _ _ _ _ _ _ _ _ hs (fun W2 hb2 hs2 => ?_)
      rcases Nat.eq_zero_or_pos m.codes.length with h0 | h0
      · obtain ⟨e1, e2⟩ := sec_void (L' := (plainM m).codes) (by simp [plainM, List.length_eq_zero_iff.1 h0]) codB okC (m := 128) (by decide)
        rw [show secF (plainM m) (9 + 1) = [] from e1, show secO (plainM m) (9 + 1) = true from e2, h0]
        exact (wnone_Code _ _ _).mono fun en w' h => by obtain ⟨rfl, rfl⟩ := h; exact WTold.same hs2
      · obtain ⟨e1, e2⟩ := sec_laid (L := m.codes) (L' := (plainM m).codes) (fun p : CodT => (p.1.1, Bod.insL p.2.1)) rfl codB okC 128 h0
        rw [show secF (plainM m) (9 + 1) = _ from e1, show secO (plainM m) (9 + 1) = _ from e2]
        exact wsome_Code (fun p => okC ((fun p : CodT => (p.1.1, Bod.insL p.2.1)) p)) (fun p => codB ((fun p : CodT => (p.1.1, Bod.insL p.2.1)) p)) 128 161 (g := g) hs2 r10 (hb1.trans (hb2.mono hb1.size)) hg hs0.codes.1 h0 (fun args W => Stab.run_enter Tryz.func161 (by kernel_rfl) rfl args W) (fun W3 b' bad' p hp hs3 hb3 => wcode (w0 := W) hT' (r10.2 p hp).1.1 (r10.2 p hp).1.2 (hs0.codes.2 p hp) (r10.2 p hp).2 hb3 hg hs3)
    | 10, _ =>
      refine wsec_11 _ _ _ _ _ _ _ _ _ _ _ hs (fun W2 hb2 hs2 => ?_)
      rcases Nat.eq_zero_or_pos m.datas.length with h0 | h0
      · obtain ⟨e1, e2⟩ := sec_void (L' := (plainM m).datas) (by simp [plainM, List.length_eq_zero_iff.1 h0]) datB okD (m := 32) (by decide)
        rw [show secF (plainM m) (10 + 1) = [] from e1, show secO (plainM m) (10 + 1) = true from e2, h0]
        exact (wnone_Data _ _ _).mono fun en w' h => by obtain ⟨rfl, rfl⟩ := h; exact WTold.same hs2
      · obtain ⟨e1, e2⟩ := sec_laid (L := m.datas) (L' := (plainM m).datas) (fun p : DatT => (p.1.1, p.2.1)) rfl datB okD 32 h0
        rw [show secF (plainM m) (10 + 1) = _ from e1, show secO (plainM m) (10 + 1) = _ from e2]
        exact wsome_Data (fun p => okD ((fun p : DatT => (p.1.1, p.2.1)) p)) (fun p => datB ((fun p : DatT => (p.1.1, p.2.1)) p)) 32 163 (g := g) hs2 r11 (hb1.trans (hb2.mono hb1.size)) hg hs0.datas.1 h0 (fun args W => Stab.run_enter Tryz.func163 (by kernel_rfl) rfl args W) (fun W3 b' bad' p hp hs3 hb3 => by have := wdata (w0 := W) hT' hTg (r11.2 p hp).1 (r11.2 p hp).2.1 (hs0.datas.2 p hp) hb3 hg hs3; rw [Bool.and_true] at this; exact this)
    | k + 11, hk => omega
theorem penc_any {w : World} {v : Value} {m : ModT} (hT : KTab w) (h : ModAt w v m) (hs0 : Sml m) : Calls Tryz.prog 16 #[v] w (EncTold (okP (plainM m)) (encP (plainM m)) w) := by
  have hl := fun W hb => plaid_any hT h hs0 W hb
  obtain ⟨vt, vi, vf, va, vm, vg, vx, ve, vc, vd, rfl, _⟩ := h
  exact encode_any _ _ _ _ _ _ _ _ _ _ _ hl
end Go.Proofs.YtffegkjlgeblbaaGreatDoor.Mdl
end

section
/- What the law's first call is of, plainly. -/
namespace Go.Proofs.YtffegkjlgeblbaaGreatDoor.Mdl
open Go.RowKit Ints Typ Ins
set_option maxRecDepth 100000
set_option maxHeartbeats 4000000
set_option linter.unusedVariables false
theorem aw_may : Sec.mayb 0 [(5, [1, 0, 1])] = true := by
  rw [Sec.mayb, Sec.may1_mk (by decide) (by decide) (by decide)]
  rfl
theorem aw_secs : Sec.secsB [(5, [1, 0, 1])] = [5, 3, 1, 0, 1] := by
  show 5 :: (Leb.uB 3 ++ [1, 0, 1]) ++ [] = _
  rw [Leb.uB_small (by omega)]
  rfl
theorem aw_join : Sec.join7 [(5, [1, 0, 1])] = ([0, 97, 115, 109, 1, 0, 0, 0, 5, 3, 1, 0, 1], 0) := by
  rw [Sec.join_ok aw_may (by rw [aw_secs]; decide), aw_secs]
  rfl
theorem aw_split : Sec.split7 [0, 97, 115, 109, 1, 0, 0, 0, 5, 3, 1, 0, 1] = ([(5, [1, 0, 1])], 0) := by
  have := Sec.split_join aw_may (by rw [aw_secs]; decide)
  rw [aw_secs] at this
  exact this
theorem aw_ru : ru [1, 0, 1] 0 0 = (1, 1, 0) := by rfl
theorem aw_lim : rlimM [1, 0, 1] 1 0 = ((1, 0, false), 3, 0) := by rfl
theorem aw_many : manyM 32 rlimM [1, 0, 1] 0 0 = ([(1, 0, false)], 3, 0) := by
  unfold manyM rmanyM
  rw [aw_ru]
  show loopM (rlimM [1, 0, 1]) 1 1 0 [] = _
  rw [loopM_ok, aw_lim]
  rfl
theorem aw_dec0 : pdecM Sec.hd8 = (noMod (-1), 0) := by
  unfold pdecM
  rw [Sec.up_none, if_neg (by decide)]
  rfl
theorem aw_psec (m : PMod) : psecM 5 [1, 0, 1] m = ({m with mems := [(1, 0, false)]}, 3, 0) := by
  unfold psecM
  rw [if_neg (by decide), if_neg (by decide), if_neg (by decide), if_neg (by decide), if_pos rfl, aw_many]
theorem aw_dec1 : pdecM [0, 97, 115, 109, 1, 0, 0, 0, 5, 3, 1, 0, 1] = ({noMod (-1) with mems := [(1, 0, false)]}, 0) := by
  unfold pdecM
  rw [aw_split, if_neg (by decide)]
  unfold pdecsM pone
  rw [if_neg (by decide), aw_psec]
  rfl
theorem aw_limB : limB 1 0 false = [0, 1] := by
  show [0] ++ Leb.uB 1 = _
  rw [Leb.uB_small (by omega)]
  rfl
def awF (k : Nat) : List Int := if k = 5 then [1, 0, 1] else []
theorem aw_secL : secL awF 11 = [(5, [1, 0, 1])] := by decide
theorem aw_okS : okS (fun _ => true) awF 11 = true := by decide
end Go.Proofs.YtffegkjlgeblbaaGreatDoor.Mdl
end

section
/- The law's first call: its module laid. -/
namespace Go.Proofs.YtffegkjlgeblbaaGreatDoor.Mdl
open Go.RowKit Ints Typ Ins
set_option maxRecDepth 100000
set_option maxHeartbeats 4000000
set_option linter.unusedVariables false
theorem aw_laid {w : World} {A : Option Addr} {c : Nat} (hr : RowG.Row elL w (.slice A 1 c) [(1, 0, false)]) (W : World) (hb : Below w.heap.size w W) :
    Calls Tryz.prog 44 #[.agg #[.slice none 0 0, .slice none 0 0, .slice none 0 0, .slice none 0 0, .slice A 1 c, .slice none 0 0, .slice none 0 0, .int .i64 (-1), .slice none 0 0, .slice none 0 0, .slice none 0 0]] W
      (LaidTold true [0, 97, 115, 109, 1, 0, 0, 0, 5, 3, 1, 0, 1] W) := by
  have HL := laid_any (w := W) (A2 := none) (A9 := none) (nf := 0) (c2 := 0) (nc := 0) (c9 := 0) (.slice none 0 0) (.slice none 0 0) (.slice none 0 0) (.slice A 1 c) (.slice none 0 0) (.slice none 0 0) (.int .i64 (-1)) (.slice none 0 0) (.slice none 0 0) (fun _ => true) awF
    (fun k _ x hx => by
      unfold awF at hx
      split at hx
      · revert x; decide
      · cases hx) ?_
  · rw [aw_secL, aw_join, aw_okS] at HL
    exact HL
  · intro k hk W1 g hb1 hg hs
    match k, hk with
    | 0, _ => exact wsec_1 _ _ _ _ _ _ _ _ _ _ _ hs (fun W2 hb2 hs2 => (wnone_FuncType _ _ _).mono fun en w' h => by obtain ⟨rfl, rfl⟩ := h; exact WTold.same hs2)
    | 1, _ => exact wsec_2 _ _ _ _ _ _ _ _ _ _ _ hs (fun W2 hb2 hs2 => (wnone_Import _ _ _).mono fun en w' h => by obtain ⟨rfl, rfl⟩ := h; exact WTold.same hs2)
    | 2, _ => exact wsec_3 _ _ _ _ _ _ _ _ _ _ _ hs (fun W2 hb2 hs2 => (wnone_int _ _ _).mono fun en w' h => by obtain ⟨rfl, rfl⟩ := h; exact WTold.same hs2)
    | 3, _ => exact wsec_4 _ _ _ _ _ _ _ _ _ _ _ hs (fun W2 hb2 hs2 => (wnone_Limits _ _ _).mono fun en w' h => by obtain ⟨rfl, rfl⟩ := h; exact WTold.same hs2)
    | 4, _ =>
      refine wsec_5 _ _ _ _ _ _ _ _ _ _ _ hs (fun W2 hb2 hs2 => ?_)
      have hrow := (hr.keep hb)
      have h2 := wsome_Limits (fun p => okL p.1 p.2.1 p.2.2) (fun p => limB p.1 p.2.1 p.2.2) 32 152 (g := g) hs2 hrow (hb1.trans (hb2.mono hb1.size)) hg (by decide) (by decide) (fun args W => Stab.run_enter Tryz.func152 (by kernel_rfl) rfl args W) (fun W b' bad' p hp hs _ => wlim p.1 p.2.1 p.2.2 hs)
      have e1 : (decide ((([((1 : Int), (0 : Int), false)] : List LimT).length : Int) ≤ 32) && ([(1, 0, false)] : List LimT).all (fun p => okL p.1 p.2.1 p.2.2)) = true := by decide
      have e2 : Leb.uB ([((1 : Int), (0 : Int), false)] : List LimT).length ++ ([(1, 0, false)] : List LimT).flatMap (fun p => limB p.1 p.2.1 p.2.2) = awF 5 := by
        rw [show ([((1 : Int), (0 : Int), false)] : List LimT).length = 1 from rfl, Leb.uB_small (by omega)]
        show [((1 : Nat) : Int)] ++ (limB 1 0 false ++ []) = _
        rw [aw_limB]
        rfl
      rw [e1, e2] at h2
      exact h2
    | 5, _ => exact wsec_6 _ _ _ _ _ _ _ _ _ _ _ hs (fun W2 hb2 hs2 => (wnone_GlobalDef _ _ _).mono fun en w' h => by obtain ⟨rfl, rfl⟩ := h; exact WTold.same hs2)
    | 6, _ => exact wsec_7 _ _ _ _ _ _ _ _ _ _ _ hs (fun W2 hb2 hs2 => (wnone_Export _ _ _).mono fun en w' h => by obtain ⟨rfl, rfl⟩ := h; exact WTold.same hs2)
    | 7, _ => exact wsec_8 _ _ _ _ _ _ _ _ _ _ _ hs (fun W2 hb2 hs2 => (wstart_none _).mono fun en w' h => by obtain ⟨rfl, rfl⟩ := h; exact WTold.same hs2)
    | 8, _ => exact wsec_9 _ _ _ _ _ _ _ _ _ _ _ hs (fun W2 hb2 hs2 => (wnone_Elem _ _ _).mono fun en w' h => by obtain ⟨rfl, rfl⟩ := h; exact WTold.same hs2)
    | 9, _ => exact wsec_10 _ _ _ _ _ _ _ _ _ _ _ hs (fun W2 hb2 hs2 => (wnone_Code _ _ _).mono fun en w' h => by obtain ⟨rfl, rfl⟩ := h; exact WTold.same hs2)
    | 10, _ => exact wsec_11 _ _ _ _ _ _ _ _ _ _ _ hs (fun W2 hb2 hs2 => (wnone_Data _ _ _).mono fun en w' h => by obtain ⟨rfl, rfl⟩ := h; exact WTold.same hs2)
    | k + 11, hk => omega
end Go.Proofs.YtffegkjlgeblbaaGreatDoor.Mdl
end

section
/- The law's first call, walked: awake. -/
namespace Go.Proofs.YtffegkjlgeblbaaGreatDoor.Mdl
open Go.RowKit Ints Typ Ins
set_option maxRecDepth 100000
set_option maxHeartbeats 4000000
set_option linter.unusedVariables false
theorem aw_first {v : Value} (w : World) (hs : Utf.Sl w v Sec.hd8) : Calls Tryz.prog 12 #[v] w (DTold (noMod (-1), 0) w) := by
  have := pdecode_of hs Sec.hd8_byte (by rw [Sec.up_none]; intro s h; cases h) (by rw [Sec.up_none]; decide) (by rw [Sec.up_none]; intro s h; cases h)
  rw [aw_dec0] at this
  exact this
theorem aw_again {w : World} {v : Value} (hs : Utf.Sl w v [0, 97, 115, 109, 1, 0, 0, 0, 5, 3, 1, 0, 1]) : Calls Tryz.prog 12 #[v] w (DTold ({noMod (-1) with mems := [(1, 0, false)]}, 0) w) := by
  have := pdecode_of hs (by decide) (by rw [aw_split]; decide) (by rw [aw_split]; decide) (by
    rw [aw_split]
    intro s h _
    obtain rfl := List.mem_singleton.1 h
    exact secok_5 _)
  rw [aw_dec1] at this
  exact this
theorem wpList_run {P : Program} {ops : Array Oper} {Q : Exit → Act → World → Prop} {o : Oper} {rest : List Oper} {a : Act} {w : World} (hgd : o.guard = none) (v : Value) (w' : World)
    (hr : (execOp a.eval o).run P w = .ok (.value v) w') (h : wpList P ops Q rest (a.put o.dst v) w') : wpList P ops Q (o :: rest) a w := by
  refine wpList_plain hgd fun K hK => ?_
  unfold Oper.wp
  rw [hr, Oper.upon_value]
  exact hK _ _ h
theorem row_one {α : Type} {T : RowG.El α} {w : World} {v : Value} {l : List α} (h : RowG.Row T w v l) : v.oneCell' = true := by
  obtain ⟨P, c, rfl⟩ := row_len h
  rfl
theorem ModAt.one {w : World} {m : ModT} {c0 c1 c2 c3 c4 c5 c6 c7 c8 c9 c10 : Value} (h : ModAt w (.agg #[c0, c1, c2, c3, c4, c5, c6, c7, c8, c9, c10]) m) : ∀ v ∈ [c0, c1, c2, c3, c4, c5, c6, c7, c8, c9, c10], v.oneCell' = true := by
  obtain ⟨vt, vi, vf, va, vm, vg, vx, ve, vc, vd, e, r1, r2, r3, r4, r5, r6, r7, r8, r9, r10, r11⟩ := h
  simp only [Value.agg.injEq, Array.mk.injEq, List.cons.injEq, and_true] at e
  obtain ⟨rfl, rfl, rfl, rfl, rfl, rfl, rfl, rfl, rfl, rfl, rfl⟩ := e
  obtain ⟨Pf, csf, rfl, _⟩ := id r3
  intro v hv
  simp only [List.mem_cons, List.not_mem_nil, or_false] at hv
  rcases hv with rfl | rfl | rfl | rfl | rfl | rfl | rfl | rfl | rfl | rfl | rfl
  · exact row_one r1
  · exact row_one r2
  · rfl
  · exact row_one r4
  · exact row_one r5
  · exact row_one r6
  · exact row_one r7
  · rfl
  · exact row_one r9
  · exact row_one r10
  · exact row_one r11
theorem aw_row (w : World) : RowG.Row elL (w.alloc (.cells #[.int .i64 1, .int .i64 0, .bool false] 61)) (.slice (some ⟨w.heap.size, 0, none⟩) 1 1) [(1, 0, false)] := by
  refine ⟨⟨_, 1, rfl, Nat.le_refl _, by decide, fun _ => ⟨w.heap.size, 0, rfl, by simp, fun j p hp => ?_⟩⟩, fun p hp => ?_⟩
  · obtain rfl : j = 0 := by
      have := (List.getElem?_eq_some_iff.1 hp).1
      simpa using this
    obtain rfl := Option.some.inj hp
    exact new_at elL w (1, 0, false)
  · obtain rfl := List.mem_singleton.1 hp
    exact ⟨by unfold w64; decide, by unfold w64; decide⟩
def zMod : Array Value := #[.slice none 0 0, .slice none 0 0, .slice none 0 0, .slice none 0 0, .slice none 0 0, .slice none 0 0, .slice none 0 0, .int .i64 0, .slice none 0 0, .slice none 0 0, .slice none 0 0]
theorem new_mod {w : World} {m : ModT} {c0 c1 c2 c3 c4 c5 c6 c7 c8 c9 c10 : Value} (h : ModAt w (.agg #[c0, c1, c2, c3, c4, c5, c6, c7, c8, c9, c10]) m) :
    ∃ W, (Instr.storeAt 34 (.pointer (some ⟨w.heap.size, 0, none⟩)) (.agg #[c0, c1, c2, c3, c4, c5, c6, c7, c8, c9, c10])).run Tryz.prog (w.alloc (.cells zMod 34)) = .ok () W ∧ Below w.heap.size w W ∧ W.heap[w.heap.size]? = some (.cells #[c0, c1, c2, c3, c4, c5, c6, c7, c8, c9, c10] 34 (0, 0)) :=
  ⟨_, run_stM (Sec.heap_new w _) rfl h.one, ((Below.refl w.heap.size w).alloc (Nat.le_refl _) _).trans (below_row _ (Nat.le_refl _) _), setRow_heap _ _ _ _ _ _ (Sec.heap_new w _)⟩
theorem awake8_any (w : World) : Calls Tryz.prog 11 #[] w fun e w' => e = .returned (.bool true) ∧ Below w.heap.size w w' := by
  have kc := fun (W : World) (C : Array Value) (n c : Nat) => Lib.run_convert_bytes_const (P := Tryz.prog) W 22 5 C n c Tryz.underlying22 Tryz.underlying5
  have HM : Hid (Sec.Mrk (w.alloc (.cells #[.int .u8 0, .int .u8 97, .int .u8 115, .int .u8 109, .int .u8 1, .int .u8 0, .int .u8 0, .int .u8 0] 5 (8, 9))) w.heap.size (.slice (some ⟨w.heap.size, 0, none⟩) 8 8) Sec.hd8) := Lib.hid ⟨w.heap.size, rfl, Nat.le_refl _, Sec.heap_new w _⟩
  have HB0 := Lib.hid ((Below.refl w.heap.size w).alloc (Nat.le_refl _) (.cells #[.int .u8 0, .int .u8 97, .int .u8 115, .int .u8 109, .int .u8 1, .int .u8 0, .int .u8 0, .int .u8 0] 5 (8, 9)))
  go_enter Tryz.func11, Tryz.ntmps11
  go_wp2_with fail
  refine (aw_first _ (HM.out.sl (by decide))).mono ?_
  rintro en w1 ⟨u1, m1, rfl, hm1, hp1, hb1⟩
  have HB1 := Lib.hid (HB0.out.trans (hb1.mono HB0.out.size))
  have hm2 := hm1
  obtain ⟨vt, vi, vf, va, vm, vg, vx, ve, vc, vd, rfl, hjunk⟩ := hm2
  clear hjunk
  have hst : m1.start = -1 := by have := congrArg PMod.start hp1; exact this
  rw [hst] at hm1 ⊢
  obtain ⟨W2, hst2, hbw2, hcw2⟩ := new_mod hm1
  have HST := Lib.hid hst2
  have HB2 := Lib.hid (HB1.out.trans (hbw2.mono HB1.out.size))
  have HC2 := Lib.hid hcw2
  clear hb1 hp1 hst hm1 hst2 hbw2 hcw2
  rename_i hK
  refine hK _ _ ?_
  refine wpList_run rfl _ _ rfl ?_
  refine wpList_run rfl _ _ rfl ?_
  refine wpList_run rfl _ _ rfl ?_
  refine wpList_run rfl (.pointer (some ⟨w1.heap.size, 0, none⟩)) (w1.alloc (.cells zMod 34)) (by unfold zMod; go_simp) ?_
  refine wpList_st rfl _ _ _ rfl HST.out ?_
  have HROW := Lib.hid (aw_row W2)
  have HB3 := Lib.hid (HB2.out.alloc HB2.out.size (.cells #[.int .i64 1, .int .i64 0, .bool false] 61))
  go_wp2_with fail
  refine (encode_any _ _ _ _ _ _ _ _ _ _ _ (aw_laid HROW.out)).mono ?_
  rintro en w4 ⟨⟨_, g4, c4, rfl, hs4⟩ | ⟨h, _⟩, hb4⟩
  case inr => cases h
  rw [show ([0, 97, 115, 109, 1, 0, 0, 0, 5, 3, 1, 0, 1] : List Int).length = 13 from rfl] at hs4 ⊢
  have HS4 := Lib.hid hs4
  have HB4 := Lib.hid (HB3.out.trans (hb4.mono HB3.out.size))
  have HC4 : Hid (w4.heap[w1.heap.size]? = some (.cells #[vt, vi, vf, va, vm, vg, vx, .int .i64 (-1), ve, vc, vd] 34 (0, 0))) := Lib.hid (by
    have hlt := (Array.getElem?_eq_some_iff.1 HC2.out).1
    rw [hb4.block _ (by simp; omega), Below.heap_alloc _ _ _ (by omega)]
    exact HC2.out)
  clear hs4 hb4
  go_wp2_with fail
  refine (aw_again HS4.out).mono ?_
  rintro en w5 ⟨u5, m5, rfl, hm5, hp5, hb5⟩
  have HB5 := Lib.hid (HB4.out.trans (hb5.mono HB4.out.size))
  have HC5 : Hid (w5.heap[w1.heap.size]? = some (.cells #[vt, vi, vf, va, vm, vg, vx, .int .i64 (-1), ve, vc, vd] 34 (0, 0))) := Lib.hid (by
    have hlt := (Array.getElem?_eq_some_iff.1 HC4.out).1
    rw [hb5.block _ hlt]
    exact HC4.out)
  have hm6 := hm5
  obtain ⟨yt, yi, yf, ya, ym, yg, yx, ye, yc, yd, rfl, r1, r2, r3, r4, r5, hjunk⟩ := hm6
  clear hjunk r1 r2 r3 r4
  have hmem : m5.mems = [(1, 0, false)] := by have := congrArg PMod.mems hp5; exact this
  obtain ⟨st, hst⟩ : ∃ s, m5.start = s := ⟨_, rfl⟩
  rw [hst] at hm5 ⊢
  rw [hmem] at r5
  obtain ⟨Pm, csm, hym⟩ := row_len r5
  rw [show ([((1 : Int), (0 : Int), false)] : List LimT).length = 1 from rfl] at hym
  subst hym
  obtain ⟨g5, off5, rfl, hg5, hA5, hok5⟩ := r5.at_ (j := 0) (p := (1, 0, false)) rfl
  rw [Nat.zero_mul, Nat.add_zero] at hA5
  have q0 := hA5 0 (.int .i64 1) rfl
  rw [Nat.add_zero] at q0
  obtain ⟨W6, hst6, hbw6, hcw6⟩ := new_mod hm5
  have HST6 := Lib.hid hst6
  have HB6 := Lib.hid (HB5.out.trans (hbw6.mono HB5.out.size))
  have HC6 := Lib.hid hcw6
  have p0 : W6.cell? ⟨g5, off5, none⟩ = some (.int .i64 1) := by rw [hbw6.cell (p := ⟨g5, off5, none⟩) hg5]; exact q0
  have HM6 : Hid (W6.heap[w1.heap.size]? = some (.cells #[vt, vi, vf, va, vm, vg, vx, .int .i64 (-1), ve, vc, vd] 34 (0, 0))) := Lib.hid (by
    have hlt := (Array.getElem?_eq_some_iff.1 HC5.out).1
    rw [hbw6.block _ hlt]
    exact HC5.out)
  clear hb5 hp5 hst hm5 hst6 hbw6 hcw6 hmem q0 hA5 hg5 r5 hok5
  rename_i hK2
  refine hK2 _ _ ?_
  refine wpList_run rfl _ _ rfl ?_
  refine wpList_run rfl _ _ rfl ?_
  refine wpList_run rfl _ _ rfl ?_
  refine wpList_run rfl (.pointer (some ⟨w5.heap.size, 0, none⟩)) (w5.alloc (.cells zMod 34)) (by unfold zMod; go_simp) ?_
  refine wpList_st rfl _ _ _ rfl HST6.out ?_
  have z7 : W6.cell? ⟨w1.heap.size, 7, none⟩ = some (.int .i64 (-1)) := (Sec.cells_at HM6.out 7).1
  have z4 : W6.cell? ⟨w5.heap.size, 4, none⟩ = some (.slice (some ⟨g5, off5, none⟩) 1 csm) := (Sec.cells_at HC6.out 4).1
  go_wp2_with fail
  exact bodyPost_ret (v := .bool true) (by simp [results, Tryz.results11, go_sem]) rfl ⟨rfl, HB6.out⟩
end Go.Proofs.YtffegkjlgeblbaaGreatDoor.Mdl
end
