/- ModWSec, ModWLaid. -/
import Derived.Test.YtffegkjlgeblbaaGreatDoorPkModWList
import Derived.Test.YtffegkjlgeblbaaGreatDoorPkSecPH
section
/- Sections, by the program's writer: walked, given what their lists are laid as. -/
namespace Go.Proofs.YtffegkjlgeblbaaGreatDoor.Mdl
open Go.RowKit Ints Typ Ins
set_option maxRecDepth 100000
set_option maxHeartbeats 4000000
set_option linter.unusedVariables false
theorem WTold.same {g : Nat} {b : List Int} {bad : Bool} {w : World} (h : WS w g b bad) : WTold g b bad true [] w (.returned (.tuple #[])) w := ⟨b, bad, rfl, h, Puts.same b bad (by have := h.le; omega), WFr.refl g w⟩
theorem wsec_1 {w : World} {g : Nat} {b : List Int} {bad ok : Bool} {x : List Int} (v0 v1 v2 v3 v4 v5 v6 v7 v8 v9 v10 : Value) (h : WS w g b bad)
    (hl : ∀ W, Below w.heap.size w W → WS W g b bad → Calls Tryz.prog 144 #[.pointer (some ⟨g, 0, none⟩), v0, .int .i64 64, .func (.func 145) #[.pointer (some ⟨g, 0, none⟩)] #[]] W (WTold g b bad ok x W)) :
    Calls Tryz.prog 93 #[.pointer (some ⟨g, 0, none⟩), .agg #[v0, v1, v2, v3, v4, v5, v6, v7, v8, v9, v10], .int .i64 1] w (WTold g b bad ok x w) := by
  have HB := Lib.hid ((Below.refl w.heap.size w).alloc (Nat.le_refl _) (.cells #[v0, v1, v2, v3, v4, v5, v6, v7, v8, v9, v10] 34))
  have HL := Lib.hid (hl _ HB.out (h.keep HB.out))
  have HF := Lib.hid (WFr.of_below HB.out h.lt)
  clear hl h HB
  go_enter Tryz.func93, Tryz.ntmps93
  go_wp2_with fail
  refine HL.out.mono ?_
  rintro en w3 ⟨b3, bad3, rfl, e2, e3, e4⟩
  have HE : Hid (WTold g b bad ok x w (.returned (.tuple #[])) w3) := Lib.hid ⟨b3, bad3, rfl, e2, e3, HF.out.trans e4⟩
  clear e2 e3 e4
  go_wp2_with fail
  exact bodyPost_end (v := .tuple #[]) (by simp [results, Tryz.results93, go_sem]) rfl HE.out
theorem wsec_2 {w : World} {g : Nat} {b : List Int} {bad ok : Bool} {x : List Int} (v0 v1 v2 v3 v4 v5 v6 v7 v8 v9 v10 : Value) (h : WS w g b bad)
    (hl : ∀ W, Below w.heap.size w W → WS W g b bad → Calls Tryz.prog 146 #[.pointer (some ⟨g, 0, none⟩), v1, .int .i64 64, .func (.func 147) #[.pointer (some ⟨g, 0, none⟩)] #[]] W (WTold g b bad ok x W)) :
    Calls Tryz.prog 93 #[.pointer (some ⟨g, 0, none⟩), .agg #[v0, v1, v2, v3, v4, v5, v6, v7, v8, v9, v10], .int .i64 2] w (WTold g b bad ok x w) := by
  have HB := Lib.hid ((Below.refl w.heap.size w).alloc (Nat.le_refl _) (.cells #[v0, v1, v2, v3, v4, v5, v6, v7, v8, v9, v10] 34))
  have HL := Lib.hid (hl _ HB.out (h.keep HB.out))
  have HF := Lib.hid (WFr.of_below HB.out h.lt)
  clear hl h HB
  go_enter Tryz.func93, Tryz.ntmps93
  go_wp2_with fail
  refine HL.out.mono ?_
  rintro en w3 ⟨b3, bad3, rfl, e2, e3, e4⟩
  have HE : Hid (WTold g b bad ok x w (.returned (.tuple #[])) w3) := Lib.hid ⟨b3, bad3, rfl, e2, e3, HF.out.trans e4⟩
  clear e2 e3 e4
  go_wp2_with fail
  exact bodyPost_end (v := .tuple #[]) (by simp [results, Tryz.results93, go_sem]) rfl HE.out
theorem wsec_3 {w : World} {g : Nat} {b : List Int} {bad ok : Bool} {x : List Int} (v0 v1 v2 v3 v4 v5 v6 v7 v8 v9 v10 : Value) (h : WS w g b bad)
    (hl : ∀ W, Below w.heap.size w W → WS W g b bad → Calls Tryz.prog 148 #[.pointer (some ⟨g, 0, none⟩), v2, .int .i64 128, .func (.func 149) #[.pointer (some ⟨g, 0, none⟩)] #[]] W (WTold g b bad ok x W)) :
    Calls Tryz.prog 93 #[.pointer (some ⟨g, 0, none⟩), .agg #[v0, v1, v2, v3, v4, v5, v6, v7, v8, v9, v10], .int .i64 3] w (WTold g b bad ok x w) := by
  have HB := Lib.hid ((Below.refl w.heap.size w).alloc (Nat.le_refl _) (.cells #[v0, v1, v2, v3, v4, v5, v6, v7, v8, v9, v10] 34))
  have HL := Lib.hid (hl _ HB.out (h.keep HB.out))
  have HF := Lib.hid (WFr.of_below HB.out h.lt)
  clear hl h HB
  go_enter Tryz.func93, Tryz.ntmps93
  go_wp2_with fail
  refine HL.out.mono ?_
  rintro en w3 ⟨b3, bad3, rfl, e2, e3, e4⟩
  have HE : Hid (WTold g b bad ok x w (.returned (.tuple #[])) w3) := Lib.hid ⟨b3, bad3, rfl, e2, e3, HF.out.trans e4⟩
  clear e2 e3 e4
  go_wp2_with fail
  exact bodyPost_end (v := .tuple #[]) (by simp [results, Tryz.results93, go_sem]) rfl HE.out
theorem wsec_4 {w : World} {g : Nat} {b : List Int} {bad ok : Bool} {x : List Int} (v0 v1 v2 v3 v4 v5 v6 v7 v8 v9 v10 : Value) (h : WS w g b bad)
    (hl : ∀ W, Below w.heap.size w W → WS W g b bad → Calls Tryz.prog 150 #[.pointer (some ⟨g, 0, none⟩), v3, .int .i64 32, .func (.func 151) #[.pointer (some ⟨g, 0, none⟩)] #[]] W (WTold g b bad ok x W)) :
    Calls Tryz.prog 93 #[.pointer (some ⟨g, 0, none⟩), .agg #[v0, v1, v2, v3, v4, v5, v6, v7, v8, v9, v10], .int .i64 4] w (WTold g b bad ok x w) := by
  have HB := Lib.hid ((Below.refl w.heap.size w).alloc (Nat.le_refl _) (.cells #[v0, v1, v2, v3, v4, v5, v6, v7, v8, v9, v10] 34))
  have HL := Lib.hid (hl _ HB.out (h.keep HB.out))
  have HF := Lib.hid (WFr.of_below HB.out h.lt)
  clear hl h HB
  go_enter Tryz.func93, Tryz.ntmps93
  go_wp2_with fail
  refine HL.out.mono ?_
  rintro en w3 ⟨b3, bad3, rfl, e2, e3, e4⟩
  have HE : Hid (WTold g b bad ok x w (.returned (.tuple #[])) w3) := Lib.hid ⟨b3, bad3, rfl, e2, e3, HF.out.trans e4⟩
  clear e2 e3 e4
  go_wp2_with fail
  exact bodyPost_end (v := .tuple #[]) (by simp [results, Tryz.results93, go_sem]) rfl HE.out
theorem wsec_5 {w : World} {g : Nat} {b : List Int} {bad ok : Bool} {x : List Int} (v0 v1 v2 v3 v4 v5 v6 v7 v8 v9 v10 : Value) (h : WS w g b bad)
    (hl : ∀ W, Below w.heap.size w W → WS W g b bad → Calls Tryz.prog 150 #[.pointer (some ⟨g, 0, none⟩), v4, .int .i64 32, .func (.func 152) #[.pointer (some ⟨g, 0, none⟩)] #[]] W (WTold g b bad ok x W)) :
    Calls Tryz.prog 93 #[.pointer (some ⟨g, 0, none⟩), .agg #[v0, v1, v2, v3, v4, v5, v6, v7, v8, v9, v10], .int .i64 5] w (WTold g b bad ok x w) := by
  have HB := Lib.hid ((Below.refl w.heap.size w).alloc (Nat.le_refl _) (.cells #[v0, v1, v2, v3, v4, v5, v6, v7, v8, v9, v10] 34))
  have HL := Lib.hid (hl _ HB.out (h.keep HB.out))
  have HF := Lib.hid (WFr.of_below HB.out h.lt)
  clear hl h HB
  go_enter Tryz.func93, Tryz.ntmps93
  go_wp2_with fail
  refine HL.out.mono ?_
  rintro en w3 ⟨b3, bad3, rfl, e2, e3, e4⟩
  have HE : Hid (WTold g b bad ok x w (.returned (.tuple #[])) w3) := Lib.hid ⟨b3, bad3, rfl, e2, e3, HF.out.trans e4⟩
  clear e2 e3 e4
  go_wp2_with fail
  exact bodyPost_end (v := .tuple #[]) (by simp [results, Tryz.results93, go_sem]) rfl HE.out
theorem wsec_6 {w : World} {g : Nat} {b : List Int} {bad ok : Bool} {x : List Int} (v0 v1 v2 v3 v4 v5 v6 v7 v8 v9 v10 : Value) (h : WS w g b bad)
    (hl : ∀ W, Below w.heap.size w W → WS W g b bad → Calls Tryz.prog 153 #[.pointer (some ⟨g, 0, none⟩), v5, .int .i64 64, .func (.func 154) #[.pointer (some ⟨g, 0, none⟩)] #[]] W (WTold g b bad ok x W)) :
    Calls Tryz.prog 93 #[.pointer (some ⟨g, 0, none⟩), .agg #[v0, v1, v2, v3, v4, v5, v6, v7, v8, v9, v10], .int .i64 6] w (WTold g b bad ok x w) := by
  have HB := Lib.hid ((Below.refl w.heap.size w).alloc (Nat.le_refl _) (.cells #[v0, v1, v2, v3, v4, v5, v6, v7, v8, v9, v10] 34))
  have HL := Lib.hid (hl _ HB.out (h.keep HB.out))
  have HF := Lib.hid (WFr.of_below HB.out h.lt)
  clear hl h HB
  go_enter Tryz.func93, Tryz.ntmps93
  go_wp2_with fail
  refine HL.out.mono ?_
  rintro en w3 ⟨b3, bad3, rfl, e2, e3, e4⟩
  have HE : Hid (WTold g b bad ok x w (.returned (.tuple #[])) w3) := Lib.hid ⟨b3, bad3, rfl, e2, e3, HF.out.trans e4⟩
  clear e2 e3 e4
  go_wp2_with fail
  exact bodyPost_end (v := .tuple #[]) (by simp [results, Tryz.results93, go_sem]) rfl HE.out
theorem wsec_7 {w : World} {g : Nat} {b : List Int} {bad ok : Bool} {x : List Int} (v0 v1 v2 v3 v4 v5 v6 v7 v8 v9 v10 : Value) (h : WS w g b bad)
    (hl : ∀ W, Below w.heap.size w W → WS W g b bad → Calls Tryz.prog 155 #[.pointer (some ⟨g, 0, none⟩), v6, .int .i64 64, .func (.func 156) #[.pointer (some ⟨g, 0, none⟩)] #[]] W (WTold g b bad ok x W)) :
    Calls Tryz.prog 93 #[.pointer (some ⟨g, 0, none⟩), .agg #[v0, v1, v2, v3, v4, v5, v6, v7, v8, v9, v10], .int .i64 7] w (WTold g b bad ok x w) := by
  have HB := Lib.hid ((Below.refl w.heap.size w).alloc (Nat.le_refl _) (.cells #[v0, v1, v2, v3, v4, v5, v6, v7, v8, v9, v10] 34))
  have HL := Lib.hid (hl _ HB.out (h.keep HB.out))
  have HF := Lib.hid (WFr.of_below HB.out h.lt)
  clear hl h HB
  go_enter Tryz.func93, Tryz.ntmps93
  go_wp2_with fail
  refine HL.out.mono ?_
  rintro en w3 ⟨b3, bad3, rfl, e2, e3, e4⟩
  have HE : Hid (WTold g b bad ok x w (.returned (.tuple #[])) w3) := Lib.hid ⟨b3, bad3, rfl, e2, e3, HF.out.trans e4⟩
  clear e2 e3 e4
  go_wp2_with fail
  exact bodyPost_end (v := .tuple #[]) (by simp [results, Tryz.results93, go_sem]) rfl HE.out
theorem wsec_9 {w : World} {g : Nat} {b : List Int} {bad ok : Bool} {x : List Int} (v0 v1 v2 v3 v4 v5 v6 v7 v8 v9 v10 : Value) (h : WS w g b bad)
    (hl : ∀ W, Below w.heap.size w W → WS W g b bad → Calls Tryz.prog 158 #[.pointer (some ⟨g, 0, none⟩), v8, .int .i64 32, .func (.func 159) #[.pointer (some ⟨g, 0, none⟩)] #[]] W (WTold g b bad ok x W)) :
    Calls Tryz.prog 93 #[.pointer (some ⟨g, 0, none⟩), .agg #[v0, v1, v2, v3, v4, v5, v6, v7, v8, v9, v10], .int .i64 9] w (WTold g b bad ok x w) := by
  have HB := Lib.hid ((Below.refl w.heap.size w).alloc (Nat.le_refl _) (.cells #[v0, v1, v2, v3, v4, v5, v6, v7, v8, v9, v10] 34))
  have HL := Lib.hid (hl _ HB.out (h.keep HB.out))
  have HF := Lib.hid (WFr.of_below HB.out h.lt)
  clear hl h HB
  go_enter Tryz.func93, Tryz.ntmps93
  go_wp2_with fail
  refine HL.out.mono ?_
  rintro en w3 ⟨b3, bad3, rfl, e2, e3, e4⟩
  have HE : Hid (WTold g b bad ok x w (.returned (.tuple #[])) w3) := Lib.hid ⟨b3, bad3, rfl, e2, e3, HF.out.trans e4⟩
  clear e2 e3 e4
  go_wp2_with fail
  exact bodyPost_end (v := .tuple #[]) (by simp [results, Tryz.results93, go_sem]) rfl HE.out
theorem wsec_10 {w : World} {g : Nat} {b : List Int} {bad ok : Bool} {x : List Int} (v0 v1 v2 v3 v4 v5 v6 v7 v8 v9 v10 : Value) (h : WS w g b bad)
    (hl : ∀ W, Below w.heap.size w W → WS W g b bad → Calls Tryz.prog 160 #[.pointer (some ⟨g, 0, none⟩), v9, .int .i64 128, .func (.func 161) #[.pointer (some ⟨g, 0, none⟩)] #[]] W (WTold g b bad ok x W)) :
    Calls Tryz.prog 93 #[.pointer (some ⟨g, 0, none⟩), .agg #[v0, v1, v2, v3, v4, v5, v6, v7, v8, v9, v10], .int .i64 10] w (WTold g b bad ok x w) := by
  have HB := Lib.hid ((Below.refl w.heap.size w).alloc (Nat.le_refl _) (.cells #[v0, v1, v2, v3, v4, v5, v6, v7, v8, v9, v10] 34))
  have HL := Lib.hid (hl _ HB.out (h.keep HB.out))
  have HF := Lib.hid (WFr.of_below HB.out h.lt)
  clear hl h HB
  go_enter Tryz.func93, Tryz.ntmps93
  go_wp2_with fail
  refine HL.out.mono ?_
  rintro en w3 ⟨b3, bad3, rfl, e2, e3, e4⟩
  have HE : Hid (WTold g b bad ok x w (.returned (.tuple #[])) w3) := Lib.hid ⟨b3, bad3, rfl, e2, e3, HF.out.trans e4⟩
  clear e2 e3 e4
  go_wp2_with fail
  exact bodyPost_end (v := .tuple #[]) (by simp [results, Tryz.results93, go_sem]) rfl HE.out
theorem wsec_11 {w : World} {g : Nat} {b : List Int} {bad ok : Bool} {x : List Int} (v0 v1 v2 v3 v4 v5 v6 v7 v8 v9 v10 : Value) (h : WS w g b bad)
    (hl : ∀ W, Below w.heap.size w W → WS W g b bad → Calls Tryz.prog 162 #[.pointer (some ⟨g, 0, none⟩), v10, .int .i64 32, .func (.func 163) #[.pointer (some ⟨g, 0, none⟩)] #[]] W (WTold g b bad ok x W)) :
    Calls Tryz.prog 93 #[.pointer (some ⟨g, 0, none⟩), .agg #[v0, v1, v2, v3, v4, v5, v6, v7, v8, v9, v10], .int .i64 11] w (WTold g b bad ok x w) := by
  have HB := Lib.hid ((Below.refl w.heap.size w).alloc (Nat.le_refl _) (.cells #[v0, v1, v2, v3, v4, v5, v6, v7, v8, v9, v10] 34))
  have HL := Lib.hid (hl _ HB.out (h.keep HB.out))
  have HF := Lib.hid (WFr.of_below HB.out h.lt)
  clear hl h HB
  go_enter Tryz.func93, Tryz.ntmps93
  go_wp2_with fail
  refine HL.out.mono ?_
  rintro en w3 ⟨b3, bad3, rfl, e2, e3, e4⟩
  have HE : Hid (WTold g b bad ok x w (.returned (.tuple #[])) w3) := Lib.hid ⟨b3, bad3, rfl, e2, e3, HF.out.trans e4⟩
  clear e2 e3 e4
  go_wp2_with fail
  exact bodyPost_end (v := .tuple #[]) (by simp [results, Tryz.results93, go_sem]) rfl HE.out
theorem wsec_8 {w : World} {g : Nat} {b : List Int} {bad ok : Bool} {x : List Int} (v0 v1 v2 v3 v4 v5 v6 v7 v8 v9 v10 : Value) (h : WS w g b bad)
    (hl : ∀ W, Below w.heap.size w W → WS W g b bad → Calls Tryz.prog 157 #[.pointer (some ⟨g, 0, none⟩), v7] W (WTold g b bad ok x W)) :
    Calls Tryz.prog 93 #[.pointer (some ⟨g, 0, none⟩), .agg #[v0, v1, v2, v3, v4, v5, v6, v7, v8, v9, v10], .int .i64 8] w (WTold g b bad ok x w) := by
  have HB := Lib.hid ((Below.refl w.heap.size w).alloc (Nat.le_refl _) (.cells #[v0, v1, v2, v3, v4, v5, v6, v7, v8, v9, v10] 34))
  have HL := Lib.hid (hl _ HB.out (h.keep HB.out))
  have HF := Lib.hid (WFr.of_below HB.out h.lt)
  clear hl h HB
  go_enter Tryz.func93, Tryz.ntmps93
  go_wp2_with fail
  refine HL.out.mono ?_
  rintro en w3 ⟨b3, bad3, rfl, e2, e3, e4⟩
  have HE : Hid (WTold g b bad ok x w (.returned (.tuple #[])) w3) := Lib.hid ⟨b3, bad3, rfl, e2, e3, HF.out.trans e4⟩
  clear e2 e3 e4
  go_wp2_with fail
  exact bodyPost_end (v := .tuple #[]) (by simp [results, Tryz.results93, go_sem]) rfl HE.out
end Go.Proofs.YtffegkjlgeblbaaGreatDoor.Mdl
end

section
/- A module laid by the program: walked, given its sections. -/
namespace Go.Proofs.YtffegkjlgeblbaaGreatDoor.Mdl
open Go.RowKit Ints Typ Ins
set_option maxRecDepth 100000
set_option maxHeartbeats 4000000
set_option linter.unusedVariables false
def elS : RowG.El (Sec.Sct × Value) where
  e := 54
  s := 2
  z := .agg #[.int .i64 0, .slice none 0 0]
  bytes := 32
  enc := fun p => [.int .i64 p.1.1, p.2]
  ok := Sec.ScOk
  pos := by decide
  len := fun _ => rfl
  info := by kernel_rfl
  zs := rfl
  stay := fun h hb => h.keep hb
  one := fun h u hu => by
    simp only [List.mem_cons, List.not_mem_nil, or_false] at hu
    rcases hu with rfl | rfl
    · rfl
    · exact slB_one h.1
theorem sc_row {w : World} {v : Value} {l : List (Sec.Sct × Value)} (h : RowG.Row elS w v l) : Sec.ScRow w v l := by
  obtain ⟨⟨A, c, h1, h2, h3, h4⟩, h5⟩ := h
  refine ⟨⟨A, c, h1, h2, h3, fun h0 => ?_⟩, h5⟩
  obtain ⟨g, off, e, hg, hB⟩ := h4 h0
  exact ⟨g, off, e, hg, fun j p hp => ⟨hB j p hp 0 _ rfl, hB j p hp 1 _ rfl⟩⟩
/-- The sections up to one. -/
def secL (f : Nat → List Int) : Nat → List Sec.Sct
  | 0 => []
  | n + 1 => secL f n ++ (if f (n + 1) = [] then [] else [(((n + 1 : Nat) : Int), f (n + 1))])
def okS (ok : Nat → Bool) (f : Nat → List Int) : Nat → Bool
  | 0 => true
  | n + 1 => okS ok f n && (ok (n + 1) && decide ((f (n + 1)).length ≤ 65536))
theorem secL_len (f : Nat → List Int) : ∀ n, (secL f n).length ≤ n
  | 0 => Nat.le_refl _
  | n + 1 => by
    unfold secL
    have := secL_len f n
    rw [List.length_append]
    split <;> simp <;> omega
theorem secL_size {ok : Nat → Bool} {f : Nat → List Int} : ∀ {n : Nat}, okS ok f n = true → ∀ p ∈ secL f n, p.2.length ≤ 65536
  | 0, _, p, hp => by cases hp
  | n + 1, h, p, hp => by
    unfold okS at h
    rw [Bool.and_eq_true, Bool.and_eq_true] at h
    unfold secL at hp
    rcases List.mem_append.1 hp with hp | hp
    · exact secL_size h.1 p hp
    · split at hp
      · cases hp
      · rw [List.mem_singleton.1 hp]
        exact of_decide_eq_true h.2.2
/-- What laid tells. -/
def LaidTold (P : Bool) (bs : List Int) (w : World) (en : Ending) (w' : World) : Prop :=
  (P = true ∧ (∃ g c, en = .returned (.tuple #[.slice g bs.length c, .bool true]) ∧ Sl w' (.slice g bs.length c) bs) ∨ P = false ∧ ∃ u, en = .returned (.tuple #[u, .bool false])) ∧ Below w.heap.size w w'
theorem ws_new (w : World) : WS (w.alloc (.cells #[.slice none 0 0, .bool false] 148)) w.heap.size [] false :=
  ⟨⟨none, 0, Sec.heap_new w _, ⟨by simp [vb], .inl ⟨rfl, rfl⟩⟩⟩, by simp⟩
theorem okS_no {ok : Nat → Bool} {f : Nat → List Int} : ∀ {n k : Nat}, k < n → (ok (k + 1) && decide ((f (k + 1)).length ≤ 65536)) = false → okS ok f n = false
  | 0, k, h, _ => by omega
  | n + 1, k, h, h2 => by
    unfold okS
    rcases Nat.lt_or_ge k n with hk | hk
    · rw [okS_no hk h2]; rfl
    · obtain rfl : k = n := by omega
      rw [h2, Bool.and_false]
end Go.Proofs.YtffegkjlgeblbaaGreatDoor.Mdl
end
