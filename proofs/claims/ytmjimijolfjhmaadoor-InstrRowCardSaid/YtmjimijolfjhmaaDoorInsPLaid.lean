/- What the program lays of an instruction, kind by kind, A. -/
import Derived.Test.YtmjimijolfjhmaaDoorInsPSane
import Derived.Test.YtmjimijolfjhmaaDoorInsCat
namespace Go.Proofs.YtmjimijolfjhmaaDoor.Ins
open Go.RowKit Ints Typ
set_option maxRecDepth 100000
set_option maxHeartbeats 2000000
set_option linter.unusedVariables false

theorem own_slI {w : World} {B : Nat} {v : Value} {l : List Int} (h : Leb.Own w B v l) : Sl w v l := OwnB.sl (show OwnB w B v l from h.2)
/-- Bytes that lie somewhere: told. -/
def SlTold (L : List Int) (w : World) (en : Ending) (w' : World) : Prop := ∃ v, en = .returned v ∧ Sl w' v L ∧ Below w.heap.size w w'
/-- New bytes: one. -/
theorem own_one (w : World) (x : Int) (g : Nat) (hg : g = w.heap.size) : Leb.Own (w.alloc (.cells #[.int .u8 x] 5)) g (.slice (some ⟨g, 0, none⟩) 1 1) [x] := by
  subst hg
  exact ⟨⟨_, _, rfl⟩, by simp [Leb.vb], .inr ⟨_, _, _, rfl, Nat.le_refl _, heap_alloc_new w _, Nat.le_refl _, by simp [maxLen], by simp, by simp [Leb.vb]⟩⟩
theorem rbyte_core (a y : Int) (w : World) (b : Bool) (h : (a == 0) = b) (hy : (bif b then 64 else IntKind.u8.wrap a) = y) : Calls Tryd.prog 54 #[.int .i64 a] w fun en w' => en = .returned (.int .u8 y) ∧ w = w' := by
  cases b with
  | true =>
    obtain rfl : (64 : Int) = y := hy
    go_enter Tryd.func54, Tryd.ntmps54
    go_wp2_with fail
    go_ret
    exact ⟨rfl, rfl⟩
  | false =>
    have hy : IntKind.u8.wrap a = y := hy
    go_enter Tryd.func54, Tryd.ntmps54
    go_wp2_with fail
    go_ret
    exact ⟨rfl, rfl⟩
theorem plaid_1 (op A B K : Int) (P : Option Addr) (n c : Nat) (w : World) 
    (wo : IntKind.u8.wrap op = op)
    (hK : ∀ W, Below w.heap.size w W → Calls Tryd.prog 21 #[.int .i64 op] W fun en w' => en = .returned (.int .i64 1) ∧ Below W.heap.size W w') :
    Calls Tryd.prog 27 #[.agg #[.int .i64 op, .int .i64 A, .int .i64 B, .int .u64 K, .slice P n c]] w (SlTold ([op]) w) := by
  have HK := Lib.hid hK
  clear hK
  have HW := Lib.hid (((Below.refl w.heap.size w).alloc (Nat.le_refl _) (.cells #[.int .i64 op, .int .i64 A, .int .i64 B, .int .u64 K, .slice P n c] 26)).alloc (by simp) (.cells #[.int .u8 op] 5))
  have HI := Lib.hid ((InAt.at_ w w.heap.size op A B K (.slice P n c) 26 rfl).keep ((Below.refl _ _).alloc (Nat.le_refl _) (.cells #[.int .u8 op] 5)))
  have HO := Lib.hid (own_one (w.alloc (.cells #[.int .i64 op, .int .i64 A, .int .i64 B, .int .u64 K, .slice P n c] 26)) op (w.heap.size + 1) (by simp))
  obtain ⟨i0, ic0, ic1, ic2, ic3, ic4, if0, if1, if2, if3, if4⟩ := HI.out
  go_enter Tryd.func27, Tryd.ntmps27
  go_wp2_with fail
  refine (HK.out _ HW.out).mono ?_
  rintro en w2 ⟨rfl, hb⟩
  have HI := Lib.hid (HI.out.keep hb)
  have HO := Lib.hid (HO.out.keep hb)
  have HW := Lib.hid (HW.out.trans (hb.mono HW.out.size))
  clear hb
  clear i0 ic0 ic1 ic2 ic3 ic4 if0 if1 if2 if3 if4
  obtain ⟨i0, ic0, ic1, ic2, ic3, ic4, if0, if1, if2, if3, if4⟩ := HI.out
  go_wp2_with fail
  have HS := own_slI HO.out
  exact bodyPost_ret (v := .slice (some ⟨w.heap.size + 1, 0, none⟩) 1 1) (by simp [results, Tryd.results27, go_sem]) rfl ⟨_, rfl, HS, HW.out⟩
theorem plaid_7 (op A B K : Int) (P : Option Addr) (n c : Nat) (w : World) 
    (wo : IntKind.u8.wrap op = op)
    (hK : ∀ W, Below w.heap.size w W → Calls Tryd.prog 21 #[.int .i64 op] W fun en w' => en = .returned (.int .i64 7) ∧ Below W.heap.size W w') :
    Calls Tryd.prog 27 #[.agg #[.int .i64 op, .int .i64 A, .int .i64 B, .int .u64 K, .slice P n c]] w (SlTold ([op] ++ [0]) w) := by
  have HK := Lib.hid hK
  clear hK
  have HW := Lib.hid (((Below.refl w.heap.size w).alloc (Nat.le_refl _) (.cells #[.int .i64 op, .int .i64 A, .int .i64 B, .int .u64 K, .slice P n c] 26)).alloc (by simp) (.cells #[.int .u8 op] 5))
  have HI := Lib.hid ((InAt.at_ w w.heap.size op A B K (.slice P n c) 26 rfl).keep ((Below.refl _ _).alloc (Nat.le_refl _) (.cells #[.int .u8 op] 5)))
  have HO := Lib.hid (own_one (w.alloc (.cells #[.int .i64 op, .int .i64 A, .int .i64 B, .int .u64 K, .slice P n c] 26)) op (w.heap.size + 1) (by simp))
  obtain ⟨i0, ic0, ic1, ic2, ic3, ic4, if0, if1, if2, if3, if4⟩ := HI.out
  go_enter Tryd.func27, Tryd.ntmps27
  go_wp2_with fail
  refine (HK.out _ HW.out).mono ?_
  rintro en w2 ⟨rfl, hb⟩
  have HI := Lib.hid (HI.out.keep hb)
  have HO := Lib.hid (HO.out.keep hb)
  have HW := Lib.hid (HW.out.trans (hb.mono HW.out.size))
  clear hb
  clear i0 ic0 ic1 ic2 ic3 ic4 if0 if1 if2 if3 if4
  obtain ⟨i0, ic0, ic1, ic2, ic3, ic4, if0, if1, if2, if3, if4⟩ := HI.out
  have HLn : Hid (([op] : List Int).length ≤ 10000000) := by show _ ≤ _; simp
  have HLo : Hid (w.heap.size + 1 ≤ w2.heap.size) := by show _ ≤ _; have := HI.out.lt; omega
  have HLw : Hid (w.heap.size ≤ w.heap.size + 1) := Nat.le_succ _
  go_wp2_with (at_builtin; refine Leb.wp_byte w2 rfl (.tmp 75) (.tmp 76) rfl _ _ ([op]) (0) rfl HO.out rfl (by have := HLn.out; omega) (by first | exact HLo.out | exact Nat.le_refl _) ?_; intro v9 w9 ho9 hb9; have HO9 := Lib.hid ho9; have HW := Lib.hid (HW.out.trans (hb9.mono HLw.out)); obtain ⟨⟨g9, d9, rfl⟩, _⟩ := id ho9; clear ho9 hb9; go_wp2_with fail)
  have HS := own_slI HO9.out
  exact bodyPost_ret (v := .slice (some ⟨g9, 0, none⟩) ([op] ++ [0]).length d9) (by simp [results, Tryd.results27, go_sem]) rfl ⟨_, rfl, HS, HW.out⟩
theorem plaid_2 (op A B K : Int) (P : Option Addr) (n c : Nat) (w : World) (y : Int)
    (wo : IntKind.u8.wrap op = op)
    (hK : ∀ W, Below w.heap.size w W → Calls Tryd.prog 21 #[.int .i64 op] W fun en w' => en = .returned (.int .i64 2) ∧ Below W.heap.size W w')
    (hR : ∀ W, Calls Tryd.prog 54 #[.int .i64 A] W fun en w' => en = .returned (.int .u8 y) ∧ W = w') :
    Calls Tryd.prog 27 #[.agg #[.int .i64 op, .int .i64 A, .int .i64 B, .int .u64 K, .slice P n c]] w (SlTold ([op] ++ [y]) w) := by
  have HK := Lib.hid hK
  have HR := Lib.hid hR
  clear hK hR
  have HW := Lib.hid (((Below.refl w.heap.size w).alloc (Nat.le_refl _) (.cells #[.int .i64 op, .int .i64 A, .int .i64 B, .int .u64 K, .slice P n c] 26)).alloc (by simp) (.cells #[.int .u8 op] 5))
  have HI := Lib.hid ((InAt.at_ w w.heap.size op A B K (.slice P n c) 26 rfl).keep ((Below.refl _ _).alloc (Nat.le_refl _) (.cells #[.int .u8 op] 5)))
  have HO := Lib.hid (own_one (w.alloc (.cells #[.int .i64 op, .int .i64 A, .int .i64 B, .int .u64 K, .slice P n c] 26)) op (w.heap.size + 1) (by simp))
  obtain ⟨i0, ic0, ic1, ic2, ic3, ic4, if0, if1, if2, if3, if4⟩ := HI.out
  go_enter Tryd.func27, Tryd.ntmps27
  go_wp2_with fail
  refine (HK.out _ HW.out).mono ?_
  rintro en w2 ⟨rfl, hb⟩
  have HI := Lib.hid (HI.out.keep hb)
  have HO := Lib.hid (HO.out.keep hb)
  have HW := Lib.hid (HW.out.trans (hb.mono HW.out.size))
  clear hb
  clear i0 ic0 ic1 ic2 ic3 ic4 if0 if1 if2 if3 if4
  obtain ⟨i0, ic0, ic1, ic2, ic3, ic4, if0, if1, if2, if3, if4⟩ := HI.out
  go_wp2_with fail
  refine (HR.out _).mono ?_
  rintro en wr ⟨rfl, rfl⟩
  have HLn : Hid (([op] : List Int).length ≤ 10000000) := by show _ ≤ _; simp
  have HLo : Hid (w.heap.size + 1 ≤ w2.heap.size) := by show _ ≤ _; have := HI.out.lt; omega
  have HLw : Hid (w.heap.size ≤ w.heap.size + 1) := Nat.le_succ _
  go_wp2_with (at_builtin; refine Leb.wp_byte w2 rfl (.tmp 15) (.tmp 19) rfl _ _ ([op]) (y) rfl HO.out rfl (by have := HLn.out; omega) (by first | exact HLo.out | exact Nat.le_refl _) ?_; intro v9 w9 ho9 hb9; have HO9 := Lib.hid ho9; have HW := Lib.hid (HW.out.trans (hb9.mono HLw.out)); obtain ⟨⟨g9, d9, rfl⟩, _⟩ := id ho9; clear ho9 hb9; go_wp2_with fail)
  have HS := own_slI HO9.out
  exact bodyPost_ret (v := .slice (some ⟨g9, 0, none⟩) ([op] ++ [y]).length d9) (by simp [results, Tryd.results27, go_sem]) rfl ⟨_, rfl, HS, HW.out⟩
theorem plaid_3 (op A B K : Int) (P : Option Addr) (n c : Nat) (w : World) (L1 : List Int)
    (wo : IntKind.u8.wrap op = op)
    (hK : ∀ W, Below w.heap.size w W → Calls Tryd.prog 21 #[.int .i64 op] W fun en w' => en = .returned (.int .i64 3) ∧ Below W.heap.size W w')
    (wa : IntKind.u64.wrap A = A)
    (h1 : ∀ W v, Sl W v [op] → Calls Tryd.prog 55 #[v, .int .u64 A] W (Leb.Laid W L1)) :
    Calls Tryd.prog 27 #[.agg #[.int .i64 op, .int .i64 A, .int .i64 B, .int .u64 K, .slice P n c]] w (SlTold (L1) w) := by
  have HK := Lib.hid hK
  have H1 := Lib.hid h1
  clear hK h1
  have HW := Lib.hid (((Below.refl w.heap.size w).alloc (Nat.le_refl _) (.cells #[.int .i64 op, .int .i64 A, .int .i64 B, .int .u64 K, .slice P n c] 26)).alloc (by simp) (.cells #[.int .u8 op] 5))
  have HI := Lib.hid ((InAt.at_ w w.heap.size op A B K (.slice P n c) 26 rfl).keep ((Below.refl _ _).alloc (Nat.le_refl _) (.cells #[.int .u8 op] 5)))
  have HO := Lib.hid (own_one (w.alloc (.cells #[.int .i64 op, .int .i64 A, .int .i64 B, .int .u64 K, .slice P n c] 26)) op (w.heap.size + 1) (by simp))
  obtain ⟨i0, ic0, ic1, ic2, ic3, ic4, if0, if1, if2, if3, if4⟩ := HI.out
  go_enter Tryd.func27, Tryd.ntmps27
  go_wp2_with fail
  refine (HK.out _ HW.out).mono ?_
  rintro en w2 ⟨rfl, hb⟩
  have HI := Lib.hid (HI.out.keep hb)
  have HO := Lib.hid (HO.out.keep hb)
  have HW := Lib.hid (HW.out.trans (hb.mono HW.out.size))
  clear hb
  clear i0 ic0 ic1 ic2 ic3 ic4 if0 if1 if2 if3 if4
  obtain ⟨i0, ic0, ic1, ic2, ic3, ic4, if0, if1, if2, if3, if4⟩ := HI.out
  go_wp2_with fail
  refine (H1.out _ _ (own_slI HO.out)).mono ?_
  rintro en w3 ⟨v3, rfl, ho, hb⟩
  have HO := Lib.hid ho
  clear ho
  have HI := Lib.hid (HI.out.keep hb)
  have HW := Lib.hid (HW.out.trans (hb.mono HW.out.size))
  clear hb
  clear i0 ic0 ic1 ic2 ic3 ic4 if0 if1 if2 if3 if4
  obtain ⟨i0, ic0, ic1, ic2, ic3, ic4, if0, if1, if2, if3, if4⟩ := HI.out
  obtain ⟨⟨g3, d3, rfl⟩, _⟩ := id HO.out
  go_wp2_with fail
  have HS := own_slI HO.out
  exact bodyPost_ret (v := .slice (some ⟨g3, 0, none⟩) L1.length d3) (by simp [results, Tryd.results27, go_sem]) rfl ⟨_, rfl, HS, HW.out⟩
theorem plaid_5 (op A B K : Int) (P : Option Addr) (n c : Nat) (w : World) (L1 : List Int)
    (wo : IntKind.u8.wrap op = op)
    (hK : ∀ W, Below w.heap.size w W → Calls Tryd.prog 21 #[.int .i64 op] W fun en w' => en = .returned (.int .i64 5) ∧ Below W.heap.size W w')
    (wa : IntKind.u64.wrap A = A)
    (hL : L1.length ≤ 10000)
    (h1 : ∀ W v, Sl W v [op] → Calls Tryd.prog 55 #[v, .int .u64 A] W (Leb.Laid W L1)) :
    Calls Tryd.prog 27 #[.agg #[.int .i64 op, .int .i64 A, .int .i64 B, .int .u64 K, .slice P n c]] w (SlTold (L1 ++ [0]) w) := by
  have HK := Lib.hid hK
  have HL := Lib.hid hL
  have H1 := Lib.hid h1
  clear hK hL h1
  have HW := Lib.hid (((Below.refl w.heap.size w).alloc (Nat.le_refl _) (.cells #[.int .i64 op, .int .i64 A, .int .i64 B, .int .u64 K, .slice P n c] 26)).alloc (by simp) (.cells #[.int .u8 op] 5))
  have HI := Lib.hid ((InAt.at_ w w.heap.size op A B K (.slice P n c) 26 rfl).keep ((Below.refl _ _).alloc (Nat.le_refl _) (.cells #[.int .u8 op] 5)))
  have HO := Lib.hid (own_one (w.alloc (.cells #[.int .i64 op, .int .i64 A, .int .i64 B, .int .u64 K, .slice P n c] 26)) op (w.heap.size + 1) (by simp))
  obtain ⟨i0, ic0, ic1, ic2, ic3, ic4, if0, if1, if2, if3, if4⟩ := HI.out
  go_enter Tryd.func27, Tryd.ntmps27
  go_wp2_with fail
  refine (HK.out _ HW.out).mono ?_
  rintro en w2 ⟨rfl, hb⟩
  have HI := Lib.hid (HI.out.keep hb)
  have HO := Lib.hid (HO.out.keep hb)
  have HW := Lib.hid (HW.out.trans (hb.mono HW.out.size))
  clear hb
  clear i0 ic0 ic1 ic2 ic3 ic4 if0 if1 if2 if3 if4
  obtain ⟨i0, ic0, ic1, ic2, ic3, ic4, if0, if1, if2, if3, if4⟩ := HI.out
  go_wp2_with fail
  refine (H1.out _ _ (own_slI HO.out)).mono ?_
  rintro en w3 ⟨v3, rfl, ho, hb⟩
  have HLq : Hid (w.heap.size ≤ w2.heap.size) := HW.out.size
  have HB2 := Lib.hid hb
  have HO := Lib.hid ho
  clear ho
  have HI := Lib.hid (HI.out.keep hb)
  have HW := Lib.hid (HW.out.trans (hb.mono HW.out.size))
  clear hb
  clear i0 ic0 ic1 ic2 ic3 ic4 if0 if1 if2 if3 if4
  obtain ⟨i0, ic0, ic1, ic2, ic3, ic4, if0, if1, if2, if3, if4⟩ := HI.out
  obtain ⟨⟨g3, d3, rfl⟩, _⟩ := id HO.out
  have HLn : Hid (L1.length ≤ 10000000) := by show _ ≤ _; have := HL.out; omega
  have HLo : Hid (w2.heap.size ≤ w3.heap.size) := HB2.out.size
  have HLw : Hid (w.heap.size ≤ w2.heap.size) := by show _ ≤ _; have := HLq.out; omega
  go_wp2_with (at_builtin; refine Leb.wp_byte w3 rfl (.tmp 59) (.tmp 60) rfl _ _ (L1) (0) rfl HO.out rfl (by have := HLn.out; omega) (by first | exact HLo.out | exact Nat.le_refl _) ?_; intro v9 w9 ho9 hb9; have HO9 := Lib.hid ho9; have HW := Lib.hid (HW.out.trans (hb9.mono HLw.out)); obtain ⟨⟨g9, d9, rfl⟩, _⟩ := id ho9; clear ho9 hb9; go_wp2_with fail)
  have HS := own_slI HO9.out
  exact bodyPost_ret (v := .slice (some ⟨g9, 0, none⟩) (L1 ++ [0]).length d9) (by simp [results, Tryd.results27, go_sem]) rfl ⟨_, rfl, HS, HW.out⟩
theorem plaid_8 (op A B K : Int) (P : Option Addr) (n c : Nat) (w : World) (s : Int) (L1 : List Int)
    (wo : IntKind.u8.wrap op = op)
    (hK : ∀ W, Below w.heap.size w W → Calls Tryd.prog 21 #[.int .i64 op] W fun en w' => en = .returned (.int .i64 8) ∧ Below W.heap.size W w')
    (hV : ∀ W, Calls Tryd.prog 57 #[.int .u8 127, .int .u64 K] W fun en w' => en = .returned (.int .i64 s) ∧ W = w')
    (h1 : ∀ W v, Sl W v [op] → Calls Tryd.prog 56 #[v, .int .i64 s] W (Leb.Laid W L1)) :
    Calls Tryd.prog 27 #[.agg #[.int .i64 op, .int .i64 A, .int .i64 B, .int .u64 K, .slice P n c]] w (SlTold (L1) w) := by
  have HK := Lib.hid hK
  have HV := Lib.hid hV
  have H1 := Lib.hid h1
  clear hK hV h1
  have HW := Lib.hid (((Below.refl w.heap.size w).alloc (Nat.le_refl _) (.cells #[.int .i64 op, .int .i64 A, .int .i64 B, .int .u64 K, .slice P n c] 26)).alloc (by simp) (.cells #[.int .u8 op] 5))
  have HI := Lib.hid ((InAt.at_ w w.heap.size op A B K (.slice P n c) 26 rfl).keep ((Below.refl _ _).alloc (Nat.le_refl _) (.cells #[.int .u8 op] 5)))
  have HO := Lib.hid (own_one (w.alloc (.cells #[.int .i64 op, .int .i64 A, .int .i64 B, .int .u64 K, .slice P n c] 26)) op (w.heap.size + 1) (by simp))
  obtain ⟨i0, ic0, ic1, ic2, ic3, ic4, if0, if1, if2, if3, if4⟩ := HI.out
  go_enter Tryd.func27, Tryd.ntmps27
  go_wp2_with fail
  refine (HK.out _ HW.out).mono ?_
  rintro en w2 ⟨rfl, hb⟩
  have HI := Lib.hid (HI.out.keep hb)
  have HO := Lib.hid (HO.out.keep hb)
  have HW := Lib.hid (HW.out.trans (hb.mono HW.out.size))
  clear hb
  clear i0 ic0 ic1 ic2 ic3 ic4 if0 if1 if2 if3 if4
  obtain ⟨i0, ic0, ic1, ic2, ic3, ic4, if0, if1, if2, if3, if4⟩ := HI.out
  go_wp2_with fail
  refine (HV.out _).mono ?_
  rintro en wr ⟨rfl, rfl⟩
  go_wp2_with fail
  refine (H1.out _ _ (own_slI HO.out)).mono ?_
  rintro en w3 ⟨v3, rfl, ho, hb⟩
  have HO := Lib.hid ho
  clear ho
  have HI := Lib.hid (HI.out.keep hb)
  have HW := Lib.hid (HW.out.trans (hb.mono HW.out.size))
  clear hb
  clear i0 ic0 ic1 ic2 ic3 ic4 if0 if1 if2 if3 if4
  obtain ⟨i0, ic0, ic1, ic2, ic3, ic4, if0, if1, if2, if3, if4⟩ := HI.out
  obtain ⟨⟨g3, d3, rfl⟩, _⟩ := id HO.out
  go_wp2_with fail
  have HS := own_slI HO.out
  exact bodyPost_ret (v := .slice (some ⟨g3, 0, none⟩) L1.length d3) (by simp [results, Tryd.results27, go_sem]) rfl ⟨_, rfl, HS, HW.out⟩
theorem plaid_9 (op A B K : Int) (P : Option Addr) (n c : Nat) (w : World) (s : Int) (L1 : List Int)
    (wo : IntKind.u8.wrap op = op)
    (hK : ∀ W, Below w.heap.size w W → Calls Tryd.prog 21 #[.int .i64 op] W fun en w' => en = .returned (.int .i64 9) ∧ Below W.heap.size W w')
    (hV : ∀ W, Calls Tryd.prog 57 #[.int .u8 126, .int .u64 K] W fun en w' => en = .returned (.int .i64 s) ∧ W = w')
    (h1 : ∀ W v, Sl W v [op] → Calls Tryd.prog 56 #[v, .int .i64 s] W (Leb.Laid W L1)) :
    Calls Tryd.prog 27 #[.agg #[.int .i64 op, .int .i64 A, .int .i64 B, .int .u64 K, .slice P n c]] w (SlTold (L1) w) := by
  have HK := Lib.hid hK
  have HV := Lib.hid hV
  have H1 := Lib.hid h1
  clear hK hV h1
  have HW := Lib.hid (((Below.refl w.heap.size w).alloc (Nat.le_refl _) (.cells #[.int .i64 op, .int .i64 A, .int .i64 B, .int .u64 K, .slice P n c] 26)).alloc (by simp) (.cells #[.int .u8 op] 5))
  have HI := Lib.hid ((InAt.at_ w w.heap.size op A B K (.slice P n c) 26 rfl).keep ((Below.refl _ _).alloc (Nat.le_refl _) (.cells #[.int .u8 op] 5)))
  have HO := Lib.hid (own_one (w.alloc (.cells #[.int .i64 op, .int .i64 A, .int .i64 B, .int .u64 K, .slice P n c] 26)) op (w.heap.size + 1) (by simp))
  obtain ⟨i0, ic0, ic1, ic2, ic3, ic4, if0, if1, if2, if3, if4⟩ := HI.out
  go_enter Tryd.func27, Tryd.ntmps27
  go_wp2_with fail
  refine (HK.out _ HW.out).mono ?_
  rintro en w2 ⟨rfl, hb⟩
  have HI := Lib.hid (HI.out.keep hb)
  have HO := Lib.hid (HO.out.keep hb)
  have HW := Lib.hid (HW.out.trans (hb.mono HW.out.size))
  clear hb
  clear i0 ic0 ic1 ic2 ic3 ic4 if0 if1 if2 if3 if4
  obtain ⟨i0, ic0, ic1, ic2, ic3, ic4, if0, if1, if2, if3, if4⟩ := HI.out
  go_wp2_with fail
  refine (HV.out _).mono ?_
  rintro en wr ⟨rfl, rfl⟩
  go_wp2_with fail
  refine (H1.out _ _ (own_slI HO.out)).mono ?_
  rintro en w3 ⟨v3, rfl, ho, hb⟩
  have HO := Lib.hid ho
  clear ho
  have HI := Lib.hid (HI.out.keep hb)
  have HW := Lib.hid (HW.out.trans (hb.mono HW.out.size))
  clear hb
  clear i0 ic0 ic1 ic2 ic3 ic4 if0 if1 if2 if3 if4
  obtain ⟨i0, ic0, ic1, ic2, ic3, ic4, if0, if1, if2, if3, if4⟩ := HI.out
  obtain ⟨⟨g3, d3, rfl⟩, _⟩ := id HO.out
  go_wp2_with fail
  have HS := own_slI HO.out
  exact bodyPost_ret (v := .slice (some ⟨g3, 0, none⟩) L1.length d3) (by simp [results, Tryd.results27, go_sem]) rfl ⟨_, rfl, HS, HW.out⟩
end Go.Proofs.YtmjimijolfjhmaaDoor.Ins
