/- The document's Put: an instruction, laid, kind by kind, A. -/
import Derived.Test.YtdmidagcdhhlhaaDoorInsPut
import Derived.Test.YtdmidagcdhhlhaaDoorInsPPuts
namespace Go.Proofs.YtdmidagcdhhlhaaDoor.Ins
open Go.RowKit Ints Typ
set_option maxRecDepth 100000
set_option maxHeartbeats 2000000
set_option linter.unusedVariables false

theorem dput_2z (A0 : Option Addr) (c0 : Nat) (l : List Int) (op A B K : Int) (P : Option Addr) (n c : Nat) (w : World) (hl : l.length ≤ 100000)  (h0 : 0 ≤ op) (h1 : op < 256) (hA : Leb.Byt w w.heap.size A0 l)
    (hS : ∀ W, Below w.heap.size w W → Calls Tryd.prog 44 #[.agg #[.int .i64 op, .int .i64 A, .int .i64 B, .int .u64 K, .slice P n c]] W fun en w' => en = .returned (.bool true) ∧ Below W.heap.size W w')
    (hK : ∀ W, Calls Tryd.prog 57 #[.int .i64 op] W fun en w' => en = .returned (.int .i64 2) ∧ Below W.heap.size W w')
    (hz : (A == 0) = true) :
    Calls Tryd.prog 37 #[.slice A0 l.length c0, .agg #[.int .i64 op, .int .i64 A, .int .i64 B, .int .u64 K, .slice P n c]] w (PutTold (l ++ [op] ++ [64]) 0 w) := by
  have wo : IntKind.u8.wrap op = op := by rw [IntKind.wrap_u8]; omega
  have HS := Lib.hid hS
  have HK := Lib.hid hK
  have HA := Lib.hid hA
  have HA1 := Lib.hid ((Below.refl w.heap.size w).alloc (Nat.le_refl _) (.cells #[.int .i64 op, .int .i64 A, .int .i64 B, .int .u64 K, .slice P n c] 50))
  have HI := Lib.hid (InAt.at_ w w.heap.size op A B K (.slice P n c) 50 rfl)
  clear hS hK hA
  obtain ⟨i0, ic0, ic1, ic2, ic3, ic4, if0, if1, if2, if3, if4⟩ := HI.out
  go_enter Tryd.func37, Tryd.ntmps37
  go_wp2_with fail
  refine (HS.out _ HA1.out).mono ?_
  rintro en w2 ⟨rfl, hb2⟩
  have HW := Lib.hid (HA1.out.trans (hb2.mono HA1.out.size))
  have HI := Lib.hid (HI.out.keep hb2)
  clear hb2
  clear i0 ic0 ic1 ic2 ic3 ic4 if0 if1 if2 if3 if4
  obtain ⟨i0, ic0, ic1, ic2, ic3, ic4, if0, if1, if2, if3, if4⟩ := HI.out
  have hiw : Hid (w.heap.size < w2.heap.size) := HI.out.lt
  go_wp2_with (at_builtin; refine Leb.wp_bytes _ rfl (.tmp 11) (.tmp 12) rfl w2.heap.size w.heap.size _ [] l rfl (Leb.own_none w2) A0 c0 rfl (HA.out.keep (HW.out.alloc HW.out.size _)) (by simp; omega) (by simp) ?_; intro v3 w3 ho3 hb3; have HO3 := Lib.hid ho3; have HB3 := Lib.hid (((Below.refl w2.heap.size w2).alloc (Nat.le_refl _) (.cells #[] 5)).trans hb3); obtain ⟨i0, ic0, ic1, ic2, ic3, ic4, if0, if1, if2, if3, if4⟩ := HI.out.kept HB3.out hiw.out; clear ho3 hb3; go_wp2_with (at_builtin; refine Leb.wp_byte w3 rfl (.tmp 14) (.tmp 18) rfl w2.heap.size _ ([] ++ l) op rfl HO3.out rfl (by simp; omega) HB3.out.size ?_; intro v4 w4 ho4 hb4; have HO4 := Lib.hid ho4; have HB4 := Lib.hid (HB3.out.trans hb4); obtain ⟨i0, ic0, ic1, ic2, ic3, ic4, if0, if1, if2, if3, if4⟩ := HI.out.kept HB4.out hiw.out; clear ho4 hb4; go_wp2_with fail))
  refine (HK.out _).mono ?_
  rintro en w5 ⟨rfl, hb5⟩
  have HO5 : Hid (Leb.Own w5 w2.heap.size _ (l ++ [op])) := HO4.out.keep hb5
  have HW5 := Lib.hid ((HW.out.trans (HB4.out.mono HW.out.size)).trans (hb5.mono (Nat.le_trans HW.out.size HB4.out.size)))
  have HI5 := Lib.hid ((HI.out.kept HB4.out hiw.out).keep hb5)
  have HZ5 : Hid (w2.heap.size ≤ w5.heap.size) := Nat.le_trans HB4.out.size hb5.size
  have HZ2 : Hid (w.heap.size ≤ w2.heap.size) := HW.out.size
  clear hb5
  clear i0 ic0 ic1 ic2 ic3 ic4 if0 if1 if2 if3 if4
  obtain ⟨i0, ic0, ic1, ic2, ic3, ic4, if0, if1, if2, if3, if4⟩ := HI5.out
  have HLn : Hid ((l ++ [op]).length ≤ 10000000) := by show _ ≤ _; first | (simp; omega) | (have := HL.out; omega)
  go_wp2_with (at_builtin; refine Leb.wp_byte w5 rfl (.tmp 28) (.tmp 29) rfl w2.heap.size _ (l ++ [op]) (64) rfl HO5.out rfl HLn.out HZ5.out ?_; intro v9 w9 ho9 hb9; have HO9 := Lib.hid ho9; have HW9 := Lib.hid (HW5.out.trans (hb9.mono HZ2.out)); obtain ⟨⟨g9, d9, rfl⟩, _⟩ := id ho9; clear ho9 hb9; go_wp2_with fail)
  have HS := own_slI HO9.out
  exact bodyPost_ret (v := .tuple #[.slice (some ⟨g9, 0, none⟩) (l ++ [op] ++ [64]).length d9, .int .i64 0]) (by simp [results, Tryd.results37, go_sem]) rfl ⟨_, rfl, HS, HW9.out⟩
theorem dput_2n (A0 : Option Addr) (c0 : Nat) (l : List Int) (op A B K : Int) (P : Option Addr) (n c : Nat) (w : World) (hl : l.length ≤ 100000)  (h0 : 0 ≤ op) (h1 : op < 256) (hA : Leb.Byt w w.heap.size A0 l)
    (hS : ∀ W, Below w.heap.size w W → Calls Tryd.prog 44 #[.agg #[.int .i64 op, .int .i64 A, .int .i64 B, .int .u64 K, .slice P n c]] W fun en w' => en = .returned (.bool true) ∧ Below W.heap.size W w')
    (hK : ∀ W, Calls Tryd.prog 57 #[.int .i64 op] W fun en w' => en = .returned (.int .i64 2) ∧ Below W.heap.size W w')
    (hz : (A == 0) = false)
    (wA : IntKind.u8.wrap A = A) :
    Calls Tryd.prog 37 #[.slice A0 l.length c0, .agg #[.int .i64 op, .int .i64 A, .int .i64 B, .int .u64 K, .slice P n c]] w (PutTold (l ++ [op] ++ [A]) 0 w) := by
  have wo : IntKind.u8.wrap op = op := by rw [IntKind.wrap_u8]; omega
  have HS := Lib.hid hS
  have HK := Lib.hid hK
  have HA := Lib.hid hA
  have HA1 := Lib.hid ((Below.refl w.heap.size w).alloc (Nat.le_refl _) (.cells #[.int .i64 op, .int .i64 A, .int .i64 B, .int .u64 K, .slice P n c] 50))
  have HI := Lib.hid (InAt.at_ w w.heap.size op A B K (.slice P n c) 50 rfl)
  clear hS hK hA
  obtain ⟨i0, ic0, ic1, ic2, ic3, ic4, if0, if1, if2, if3, if4⟩ := HI.out
  go_enter Tryd.func37, Tryd.ntmps37
  go_wp2_with fail
  refine (HS.out _ HA1.out).mono ?_
  rintro en w2 ⟨rfl, hb2⟩
  have HW := Lib.hid (HA1.out.trans (hb2.mono HA1.out.size))
  have HI := Lib.hid (HI.out.keep hb2)
  clear hb2
  clear i0 ic0 ic1 ic2 ic3 ic4 if0 if1 if2 if3 if4
  obtain ⟨i0, ic0, ic1, ic2, ic3, ic4, if0, if1, if2, if3, if4⟩ := HI.out
  have hiw : Hid (w.heap.size < w2.heap.size) := HI.out.lt
  go_wp2_with (at_builtin; refine Leb.wp_bytes _ rfl (.tmp 11) (.tmp 12) rfl w2.heap.size w.heap.size _ [] l rfl (Leb.own_none w2) A0 c0 rfl (HA.out.keep (HW.out.alloc HW.out.size _)) (by simp; omega) (by simp) ?_; intro v3 w3 ho3 hb3; have HO3 := Lib.hid ho3; have HB3 := Lib.hid (((Below.refl w2.heap.size w2).alloc (Nat.le_refl _) (.cells #[] 5)).trans hb3); obtain ⟨i0, ic0, ic1, ic2, ic3, ic4, if0, if1, if2, if3, if4⟩ := HI.out.kept HB3.out hiw.out; clear ho3 hb3; go_wp2_with (at_builtin; refine Leb.wp_byte w3 rfl (.tmp 14) (.tmp 18) rfl w2.heap.size _ ([] ++ l) op rfl HO3.out rfl (by simp; omega) HB3.out.size ?_; intro v4 w4 ho4 hb4; have HO4 := Lib.hid ho4; have HB4 := Lib.hid (HB3.out.trans hb4); obtain ⟨i0, ic0, ic1, ic2, ic3, ic4, if0, if1, if2, if3, if4⟩ := HI.out.kept HB4.out hiw.out; clear ho4 hb4; go_wp2_with fail))
  refine (HK.out _).mono ?_
  rintro en w5 ⟨rfl, hb5⟩
  have HO5 : Hid (Leb.Own w5 w2.heap.size _ (l ++ [op])) := HO4.out.keep hb5
  have HW5 := Lib.hid ((HW.out.trans (HB4.out.mono HW.out.size)).trans (hb5.mono (Nat.le_trans HW.out.size HB4.out.size)))
  have HI5 := Lib.hid ((HI.out.kept HB4.out hiw.out).keep hb5)
  have HZ5 : Hid (w2.heap.size ≤ w5.heap.size) := Nat.le_trans HB4.out.size hb5.size
  have HZ2 : Hid (w.heap.size ≤ w2.heap.size) := HW.out.size
  clear hb5
  clear i0 ic0 ic1 ic2 ic3 ic4 if0 if1 if2 if3 if4
  obtain ⟨i0, ic0, ic1, ic2, ic3, ic4, if0, if1, if2, if3, if4⟩ := HI5.out
  have HLn : Hid ((l ++ [op]).length ≤ 10000000) := by show _ ≤ _; first | (simp; omega) | (have := HL.out; omega)
  go_wp2_with (at_builtin; refine Leb.wp_byte w5 rfl (.tmp 31) (.tmp 35) rfl w2.heap.size _ (l ++ [op]) (A) rfl HO5.out rfl HLn.out HZ5.out ?_; intro v9 w9 ho9 hb9; have HO9 := Lib.hid ho9; have HW9 := Lib.hid (HW5.out.trans (hb9.mono HZ2.out)); obtain ⟨⟨g9, d9, rfl⟩, _⟩ := id ho9; clear ho9 hb9; go_wp2_with fail)
  have HS := own_slI HO9.out
  exact bodyPost_ret (v := .tuple #[.slice (some ⟨g9, 0, none⟩) (l ++ [op] ++ [A]).length d9, .int .i64 0]) (by simp [results, Tryd.results37, go_sem]) rfl ⟨_, rfl, HS, HW9.out⟩
theorem dput_7 (A0 : Option Addr) (c0 : Nat) (l : List Int) (op A B K : Int) (P : Option Addr) (n c : Nat) (w : World) (hl : l.length ≤ 100000)  (h0 : 0 ≤ op) (h1 : op < 256) (hA : Leb.Byt w w.heap.size A0 l)
    (hS : ∀ W, Below w.heap.size w W → Calls Tryd.prog 44 #[.agg #[.int .i64 op, .int .i64 A, .int .i64 B, .int .u64 K, .slice P n c]] W fun en w' => en = .returned (.bool true) ∧ Below W.heap.size W w')
    (hK : ∀ W, Calls Tryd.prog 57 #[.int .i64 op] W fun en w' => en = .returned (.int .i64 7) ∧ Below W.heap.size W w')
    (_h7 : True) :
    Calls Tryd.prog 37 #[.slice A0 l.length c0, .agg #[.int .i64 op, .int .i64 A, .int .i64 B, .int .u64 K, .slice P n c]] w (PutTold (l ++ [op] ++ [0]) 0 w) := by
  have wo : IntKind.u8.wrap op = op := by rw [IntKind.wrap_u8]; omega
  have HS := Lib.hid hS
  have HK := Lib.hid hK
  have HA := Lib.hid hA
  have HA1 := Lib.hid ((Below.refl w.heap.size w).alloc (Nat.le_refl _) (.cells #[.int .i64 op, .int .i64 A, .int .i64 B, .int .u64 K, .slice P n c] 50))
  have HI := Lib.hid (InAt.at_ w w.heap.size op A B K (.slice P n c) 50 rfl)
  clear hS hK hA
  obtain ⟨i0, ic0, ic1, ic2, ic3, ic4, if0, if1, if2, if3, if4⟩ := HI.out
  go_enter Tryd.func37, Tryd.ntmps37
  go_wp2_with fail
  refine (HS.out _ HA1.out).mono ?_
  rintro en w2 ⟨rfl, hb2⟩
  have HW := Lib.hid (HA1.out.trans (hb2.mono HA1.out.size))
  have HI := Lib.hid (HI.out.keep hb2)
  clear hb2
  clear i0 ic0 ic1 ic2 ic3 ic4 if0 if1 if2 if3 if4
  obtain ⟨i0, ic0, ic1, ic2, ic3, ic4, if0, if1, if2, if3, if4⟩ := HI.out
  have hiw : Hid (w.heap.size < w2.heap.size) := HI.out.lt
  go_wp2_with (at_builtin; refine Leb.wp_bytes _ rfl (.tmp 11) (.tmp 12) rfl w2.heap.size w.heap.size _ [] l rfl (Leb.own_none w2) A0 c0 rfl (HA.out.keep (HW.out.alloc HW.out.size _)) (by simp; omega) (by simp) ?_; intro v3 w3 ho3 hb3; have HO3 := Lib.hid ho3; have HB3 := Lib.hid (((Below.refl w2.heap.size w2).alloc (Nat.le_refl _) (.cells #[] 5)).trans hb3); obtain ⟨i0, ic0, ic1, ic2, ic3, ic4, if0, if1, if2, if3, if4⟩ := HI.out.kept HB3.out hiw.out; clear ho3 hb3; go_wp2_with (at_builtin; refine Leb.wp_byte w3 rfl (.tmp 14) (.tmp 18) rfl w2.heap.size _ ([] ++ l) op rfl HO3.out rfl (by simp; omega) HB3.out.size ?_; intro v4 w4 ho4 hb4; have HO4 := Lib.hid ho4; have HB4 := Lib.hid (HB3.out.trans hb4); obtain ⟨i0, ic0, ic1, ic2, ic3, ic4, if0, if1, if2, if3, if4⟩ := HI.out.kept HB4.out hiw.out; clear ho4 hb4; go_wp2_with fail))
  refine (HK.out _).mono ?_
  rintro en w5 ⟨rfl, hb5⟩
  have HO5 : Hid (Leb.Own w5 w2.heap.size _ (l ++ [op])) := HO4.out.keep hb5
  have HW5 := Lib.hid ((HW.out.trans (HB4.out.mono HW.out.size)).trans (hb5.mono (Nat.le_trans HW.out.size HB4.out.size)))
  have HI5 := Lib.hid ((HI.out.kept HB4.out hiw.out).keep hb5)
  have HZ5 : Hid (w2.heap.size ≤ w5.heap.size) := Nat.le_trans HB4.out.size hb5.size
  have HZ2 : Hid (w.heap.size ≤ w2.heap.size) := HW.out.size
  clear hb5
  clear i0 ic0 ic1 ic2 ic3 ic4 if0 if1 if2 if3 if4
  obtain ⟨i0, ic0, ic1, ic2, ic3, ic4, if0, if1, if2, if3, if4⟩ := HI5.out
  have HLn : Hid ((l ++ [op]).length ≤ 10000000) := by show _ ≤ _; first | (simp; omega) | (have := HL.out; omega)
  go_wp2_with (at_builtin; refine Leb.wp_byte w5 rfl (.tmp 96) (.tmp 97) rfl w2.heap.size _ (l ++ [op]) (0) rfl HO5.out rfl HLn.out HZ5.out ?_; intro v9 w9 ho9 hb9; have HO9 := Lib.hid ho9; have HW9 := Lib.hid (HW5.out.trans (hb9.mono HZ2.out)); obtain ⟨⟨g9, d9, rfl⟩, _⟩ := id ho9; clear ho9 hb9; go_wp2_with fail)
  have HS := own_slI HO9.out
  exact bodyPost_ret (v := .tuple #[.slice (some ⟨g9, 0, none⟩) (l ++ [op] ++ [0]).length d9, .int .i64 0]) (by simp [results, Tryd.results37, go_sem]) rfl ⟨_, rfl, HS, HW9.out⟩
theorem dput_3 (A0 : Option Addr) (c0 : Nat) (l : List Int) (op A B K : Int) (P : Option Addr) (n c : Nat) (w : World) (hl : l.length ≤ 100000) (L1 : List Int) (h0 : 0 ≤ op) (h1 : op < 256) (hA : Leb.Byt w w.heap.size A0 l)
    (hS : ∀ W, Below w.heap.size w W → Calls Tryd.prog 44 #[.agg #[.int .i64 op, .int .i64 A, .int .i64 B, .int .u64 K, .slice P n c]] W fun en w' => en = .returned (.bool true) ∧ Below W.heap.size W w')
    (hK : ∀ W, Calls Tryd.prog 57 #[.int .i64 op] W fun en w' => en = .returned (.int .i64 3) ∧ Below W.heap.size W w')
    (wa : IntKind.u64.wrap A = A)
    (h1 : ∀ W v, Sl W v (l ++ [op]) → Calls Tryd.prog 58 #[v, .int .u64 A] W (Leb.Laid W (L1))) :
    Calls Tryd.prog 37 #[.slice A0 l.length c0, .agg #[.int .i64 op, .int .i64 A, .int .i64 B, .int .u64 K, .slice P n c]] w (PutTold (L1) 0 w) := by
  have wo : IntKind.u8.wrap op = op := by rw [IntKind.wrap_u8]; omega
  have HS := Lib.hid hS
  have HK := Lib.hid hK
  have HA := Lib.hid hA
  have HA1 := Lib.hid ((Below.refl w.heap.size w).alloc (Nat.le_refl _) (.cells #[.int .i64 op, .int .i64 A, .int .i64 B, .int .u64 K, .slice P n c] 50))
  have HI := Lib.hid (InAt.at_ w w.heap.size op A B K (.slice P n c) 50 rfl)
  have H1 := Lib.hid h1
  clear hS hK hA h1
  obtain ⟨i0, ic0, ic1, ic2, ic3, ic4, if0, if1, if2, if3, if4⟩ := HI.out
  go_enter Tryd.func37, Tryd.ntmps37
  go_wp2_with fail
  refine (HS.out _ HA1.out).mono ?_
  rintro en w2 ⟨rfl, hb2⟩
  have HW := Lib.hid (HA1.out.trans (hb2.mono HA1.out.size))
  have HI := Lib.hid (HI.out.keep hb2)
  clear hb2
  clear i0 ic0 ic1 ic2 ic3 ic4 if0 if1 if2 if3 if4
  obtain ⟨i0, ic0, ic1, ic2, ic3, ic4, if0, if1, if2, if3, if4⟩ := HI.out
  have hiw : Hid (w.heap.size < w2.heap.size) := HI.out.lt
  go_wp2_with (at_builtin; refine Leb.wp_bytes _ rfl (.tmp 11) (.tmp 12) rfl w2.heap.size w.heap.size _ [] l rfl (Leb.own_none w2) A0 c0 rfl (HA.out.keep (HW.out.alloc HW.out.size _)) (by simp; omega) (by simp) ?_; intro v3 w3 ho3 hb3; have HO3 := Lib.hid ho3; have HB3 := Lib.hid (((Below.refl w2.heap.size w2).alloc (Nat.le_refl _) (.cells #[] 5)).trans hb3); obtain ⟨i0, ic0, ic1, ic2, ic3, ic4, if0, if1, if2, if3, if4⟩ := HI.out.kept HB3.out hiw.out; clear ho3 hb3; go_wp2_with (at_builtin; refine Leb.wp_byte w3 rfl (.tmp 14) (.tmp 18) rfl w2.heap.size _ ([] ++ l) op rfl HO3.out rfl (by simp; omega) HB3.out.size ?_; intro v4 w4 ho4 hb4; have HO4 := Lib.hid ho4; have HB4 := Lib.hid (HB3.out.trans hb4); obtain ⟨i0, ic0, ic1, ic2, ic3, ic4, if0, if1, if2, if3, if4⟩ := HI.out.kept HB4.out hiw.out; clear ho4 hb4; go_wp2_with fail))
  refine (HK.out _).mono ?_
  rintro en w5 ⟨rfl, hb5⟩
  have HO5 : Hid (Leb.Own w5 w2.heap.size _ (l ++ [op])) := HO4.out.keep hb5
  have HW5 := Lib.hid ((HW.out.trans (HB4.out.mono HW.out.size)).trans (hb5.mono (Nat.le_trans HW.out.size HB4.out.size)))
  have HI5 := Lib.hid ((HI.out.kept HB4.out hiw.out).keep hb5)
  have HZ5 : Hid (w2.heap.size ≤ w5.heap.size) := Nat.le_trans HB4.out.size hb5.size
  have HZ2 : Hid (w.heap.size ≤ w2.heap.size) := HW.out.size
  clear hb5
  clear i0 ic0 ic1 ic2 ic3 ic4 if0 if1 if2 if3 if4
  obtain ⟨i0, ic0, ic1, ic2, ic3, ic4, if0, if1, if2, if3, if4⟩ := HI5.out
  go_wp2_with fail
  refine (H1.out _ _ (own_slI HO5.out)).mono ?_
  rintro en w6 ⟨v6, rfl, ho, hb⟩
  have HO6 := Lib.hid ho
  have HI6 := Lib.hid (HI5.out.keep hb)
  have HW6 := Lib.hid (HW5.out.trans (hb.mono HW5.out.size))
  have HBB := Lib.hid hb
  clear ho hb
  clear i0 ic0 ic1 ic2 ic3 ic4 if0 if1 if2 if3 if4
  obtain ⟨i0, ic0, ic1, ic2, ic3, ic4, if0, if1, if2, if3, if4⟩ := HI6.out
  obtain ⟨⟨g6, d6, rfl⟩, _⟩ := id HO6.out
  go_wp2_with fail
  have HS := own_slI HO6.out
  exact bodyPost_ret (v := .tuple #[.slice (some ⟨g6, 0, none⟩) (L1).length d6, .int .i64 0]) (by simp [results, Tryd.results37, go_sem]) rfl ⟨_, rfl, HS, HW6.out⟩
theorem dput_6 (A0 : Option Addr) (c0 : Nat) (l : List Int) (op A B K : Int) (P : Option Addr) (n c : Nat) (w : World) (hl : l.length ≤ 100000) (L1 L2 : List Int) (h0 : 0 ≤ op) (h1 : op < 256) (hA : Leb.Byt w w.heap.size A0 l)
    (hS : ∀ W, Below w.heap.size w W → Calls Tryd.prog 44 #[.agg #[.int .i64 op, .int .i64 A, .int .i64 B, .int .u64 K, .slice P n c]] W fun en w' => en = .returned (.bool true) ∧ Below W.heap.size W w')
    (hK : ∀ W, Calls Tryd.prog 57 #[.int .i64 op] W fun en w' => en = .returned (.int .i64 6) ∧ Below W.heap.size W w')
    (wa : IntKind.u64.wrap A = A)
    (wb : IntKind.u64.wrap B = B)
    (h1 : ∀ W v, Sl W v (l ++ [op]) → Calls Tryd.prog 58 #[v, .int .u64 A] W (Leb.Laid W (L1)))
    (h2 : ∀ W v, Sl W v (L1) → Calls Tryd.prog 58 #[v, .int .u64 B] W (Leb.Laid W (L2))) :
    Calls Tryd.prog 37 #[.slice A0 l.length c0, .agg #[.int .i64 op, .int .i64 A, .int .i64 B, .int .u64 K, .slice P n c]] w (PutTold (L2) 0 w) := by
  have wo : IntKind.u8.wrap op = op := by rw [IntKind.wrap_u8]; omega
  have HS := Lib.hid hS
  have HK := Lib.hid hK
  have HA := Lib.hid hA
  have HA1 := Lib.hid ((Below.refl w.heap.size w).alloc (Nat.le_refl _) (.cells #[.int .i64 op, .int .i64 A, .int .i64 B, .int .u64 K, .slice P n c] 50))
  have HI := Lib.hid (InAt.at_ w w.heap.size op A B K (.slice P n c) 50 rfl)
  have H1 := Lib.hid h1
  have H2 := Lib.hid h2
  clear hS hK hA h1 h2
  obtain ⟨i0, ic0, ic1, ic2, ic3, ic4, if0, if1, if2, if3, if4⟩ := HI.out
  go_enter Tryd.func37, Tryd.ntmps37
  go_wp2_with fail
  refine (HS.out _ HA1.out).mono ?_
  rintro en w2 ⟨rfl, hb2⟩
  have HW := Lib.hid (HA1.out.trans (hb2.mono HA1.out.size))
  have HI := Lib.hid (HI.out.keep hb2)
  clear hb2
  clear i0 ic0 ic1 ic2 ic3 ic4 if0 if1 if2 if3 if4
  obtain ⟨i0, ic0, ic1, ic2, ic3, ic4, if0, if1, if2, if3, if4⟩ := HI.out
  have hiw : Hid (w.heap.size < w2.heap.size) := HI.out.lt
  go_wp2_with (at_builtin; refine Leb.wp_bytes _ rfl (.tmp 11) (.tmp 12) rfl w2.heap.size w.heap.size _ [] l rfl (Leb.own_none w2) A0 c0 rfl (HA.out.keep (HW.out.alloc HW.out.size _)) (by simp; omega) (by simp) ?_; intro v3 w3 ho3 hb3; have HO3 := Lib.hid ho3; have HB3 := Lib.hid (((Below.refl w2.heap.size w2).alloc (Nat.le_refl _) (.cells #[] 5)).trans hb3); obtain ⟨i0, ic0, ic1, ic2, ic3, ic4, if0, if1, if2, if3, if4⟩ := HI.out.kept HB3.out hiw.out; clear ho3 hb3; go_wp2_with (at_builtin; refine Leb.wp_byte w3 rfl (.tmp 14) (.tmp 18) rfl w2.heap.size _ ([] ++ l) op rfl HO3.out rfl (by simp; omega) HB3.out.size ?_; intro v4 w4 ho4 hb4; have HO4 := Lib.hid ho4; have HB4 := Lib.hid (HB3.out.trans hb4); obtain ⟨i0, ic0, ic1, ic2, ic3, ic4, if0, if1, if2, if3, if4⟩ := HI.out.kept HB4.out hiw.out; clear ho4 hb4; go_wp2_with fail))
  refine (HK.out _).mono ?_
  rintro en w5 ⟨rfl, hb5⟩
  have HO5 : Hid (Leb.Own w5 w2.heap.size _ (l ++ [op])) := HO4.out.keep hb5
  have HW5 := Lib.hid ((HW.out.trans (HB4.out.mono HW.out.size)).trans (hb5.mono (Nat.le_trans HW.out.size HB4.out.size)))
  have HI5 := Lib.hid ((HI.out.kept HB4.out hiw.out).keep hb5)
  have HZ5 : Hid (w2.heap.size ≤ w5.heap.size) := Nat.le_trans HB4.out.size hb5.size
  have HZ2 : Hid (w.heap.size ≤ w2.heap.size) := HW.out.size
  clear hb5
  clear i0 ic0 ic1 ic2 ic3 ic4 if0 if1 if2 if3 if4
  obtain ⟨i0, ic0, ic1, ic2, ic3, ic4, if0, if1, if2, if3, if4⟩ := HI5.out
  go_wp2_with fail
  refine (H1.out _ _ (own_slI HO5.out)).mono ?_
  rintro en w6 ⟨v6, rfl, ho, hb⟩
  have HO6 := Lib.hid ho
  have HI6 := Lib.hid (HI5.out.keep hb)
  have HW6 := Lib.hid (HW5.out.trans (hb.mono HW5.out.size))
  have HBB := Lib.hid hb
  clear ho hb
  clear i0 ic0 ic1 ic2 ic3 ic4 if0 if1 if2 if3 if4
  obtain ⟨i0, ic0, ic1, ic2, ic3, ic4, if0, if1, if2, if3, if4⟩ := HI6.out
  obtain ⟨⟨g6, d6, rfl⟩, _⟩ := id HO6.out
  go_wp2_with fail
  refine (H2.out _ _ (own_slI HO6.out)).mono ?_
  rintro en w7 ⟨v7, rfl, ho, hb⟩
  have HO7 := Lib.hid ho
  have HI7 := Lib.hid (HI6.out.keep hb)
  have HW7 := Lib.hid (HW6.out.trans (hb.mono HW6.out.size))
  have HBB := Lib.hid hb
  clear ho hb
  clear i0 ic0 ic1 ic2 ic3 ic4 if0 if1 if2 if3 if4
  obtain ⟨i0, ic0, ic1, ic2, ic3, ic4, if0, if1, if2, if3, if4⟩ := HI7.out
  obtain ⟨⟨g7, d7, rfl⟩, _⟩ := id HO7.out
  go_wp2_with fail
  have HS := own_slI HO7.out
  exact bodyPost_ret (v := .tuple #[.slice (some ⟨g7, 0, none⟩) (L2).length d7, .int .i64 0]) (by simp [results, Tryd.results37, go_sem]) rfl ⟨_, rfl, HS, HW7.out⟩
theorem dput_5 (A0 : Option Addr) (c0 : Nat) (l : List Int) (op A B K : Int) (P : Option Addr) (n c : Nat) (w : World) (hl : l.length ≤ 100000) (L1 : List Int) (h0 : 0 ≤ op) (h1 : op < 256) (hA : Leb.Byt w w.heap.size A0 l)
    (hS : ∀ W, Below w.heap.size w W → Calls Tryd.prog 44 #[.agg #[.int .i64 op, .int .i64 A, .int .i64 B, .int .u64 K, .slice P n c]] W fun en w' => en = .returned (.bool true) ∧ Below W.heap.size W w')
    (hK : ∀ W, Calls Tryd.prog 57 #[.int .i64 op] W fun en w' => en = .returned (.int .i64 5) ∧ Below W.heap.size W w')
    (wa : IntKind.u64.wrap A = A)
    (h1 : ∀ W v, Sl W v (l ++ [op]) → Calls Tryd.prog 58 #[v, .int .u64 A] W (Leb.Laid W (L1)))
    (hL : L1.length ≤ 1000000) :
    Calls Tryd.prog 37 #[.slice A0 l.length c0, .agg #[.int .i64 op, .int .i64 A, .int .i64 B, .int .u64 K, .slice P n c]] w (PutTold (L1 ++ [0]) 0 w) := by
  have wo : IntKind.u8.wrap op = op := by rw [IntKind.wrap_u8]; omega
  have HS := Lib.hid hS
  have HK := Lib.hid hK
  have HA := Lib.hid hA
  have HA1 := Lib.hid ((Below.refl w.heap.size w).alloc (Nat.le_refl _) (.cells #[.int .i64 op, .int .i64 A, .int .i64 B, .int .u64 K, .slice P n c] 50))
  have HI := Lib.hid (InAt.at_ w w.heap.size op A B K (.slice P n c) 50 rfl)
  have H1 := Lib.hid h1
  have HL := Lib.hid hL
  clear hS hK hA h1 hL
  obtain ⟨i0, ic0, ic1, ic2, ic3, ic4, if0, if1, if2, if3, if4⟩ := HI.out
  go_enter Tryd.func37, Tryd.ntmps37
  go_wp2_with fail
  refine (HS.out _ HA1.out).mono ?_
  rintro en w2 ⟨rfl, hb2⟩
  have HW := Lib.hid (HA1.out.trans (hb2.mono HA1.out.size))
  have HI := Lib.hid (HI.out.keep hb2)
  clear hb2
  clear i0 ic0 ic1 ic2 ic3 ic4 if0 if1 if2 if3 if4
  obtain ⟨i0, ic0, ic1, ic2, ic3, ic4, if0, if1, if2, if3, if4⟩ := HI.out
  have hiw : Hid (w.heap.size < w2.heap.size) := HI.out.lt
  go_wp2_with (at_builtin; refine Leb.wp_bytes _ rfl (.tmp 11) (.tmp 12) rfl w2.heap.size w.heap.size _ [] l rfl (Leb.own_none w2) A0 c0 rfl (HA.out.keep (HW.out.alloc HW.out.size _)) (by simp; omega) (by simp) ?_; intro v3 w3 ho3 hb3; have HO3 := Lib.hid ho3; have HB3 := Lib.hid (((Below.refl w2.heap.size w2).alloc (Nat.le_refl _) (.cells #[] 5)).trans hb3); obtain ⟨i0, ic0, ic1, ic2, ic3, ic4, if0, if1, if2, if3, if4⟩ := HI.out.kept HB3.out hiw.out; clear ho3 hb3; go_wp2_with (at_builtin; refine Leb.wp_byte w3 rfl (.tmp 14) (.tmp 18) rfl w2.heap.size _ ([] ++ l) op rfl HO3.out rfl (by simp; omega) HB3.out.size ?_; intro v4 w4 ho4 hb4; have HO4 := Lib.hid ho4; have HB4 := Lib.hid (HB3.out.trans hb4); obtain ⟨i0, ic0, ic1, ic2, ic3, ic4, if0, if1, if2, if3, if4⟩ := HI.out.kept HB4.out hiw.out; clear ho4 hb4; go_wp2_with fail))
  refine (HK.out _).mono ?_
  rintro en w5 ⟨rfl, hb5⟩
  have HO5 : Hid (Leb.Own w5 w2.heap.size _ (l ++ [op])) := HO4.out.keep hb5
  have HW5 := Lib.hid ((HW.out.trans (HB4.out.mono HW.out.size)).trans (hb5.mono (Nat.le_trans HW.out.size HB4.out.size)))
  have HI5 := Lib.hid ((HI.out.kept HB4.out hiw.out).keep hb5)
  have HZ5 : Hid (w2.heap.size ≤ w5.heap.size) := Nat.le_trans HB4.out.size hb5.size
  have HZ2 : Hid (w.heap.size ≤ w2.heap.size) := HW.out.size
  clear hb5
  clear i0 ic0 ic1 ic2 ic3 ic4 if0 if1 if2 if3 if4
  obtain ⟨i0, ic0, ic1, ic2, ic3, ic4, if0, if1, if2, if3, if4⟩ := HI5.out
  go_wp2_with fail
  refine (H1.out _ _ (own_slI HO5.out)).mono ?_
  rintro en w6 ⟨v6, rfl, ho, hb⟩
  have HO6 := Lib.hid ho
  have HI6 := Lib.hid (HI5.out.keep hb)
  have HW6 := Lib.hid (HW5.out.trans (hb.mono HW5.out.size))
  have HBB := Lib.hid hb
  clear ho hb
  clear i0 ic0 ic1 ic2 ic3 ic4 if0 if1 if2 if3 if4
  obtain ⟨i0, ic0, ic1, ic2, ic3, ic4, if0, if1, if2, if3, if4⟩ := HI6.out
  obtain ⟨⟨g6, d6, rfl⟩, _⟩ := id HO6.out
  have HZ6 : Hid (w5.heap.size ≤ w6.heap.size) := HBB.out.size
  have HLn : Hid ((L1).length ≤ 10000000) := by show _ ≤ _; first | (simp; omega) | (have := HL.out; omega)
  go_wp2_with (at_builtin; refine Leb.wp_byte w6 rfl (.tmp 79) (.tmp 80) rfl w5.heap.size _ (L1) (0) rfl HO6.out rfl HLn.out HZ6.out ?_; intro v9 w9 ho9 hb9; have HO9 := Lib.hid ho9; have HW9 := Lib.hid (HW6.out.trans (hb9.mono HW5.out.size)); obtain ⟨⟨g9, d9, rfl⟩, _⟩ := id ho9; clear ho9 hb9; go_wp2_with fail)
  have HS := own_slI HO9.out
  exact bodyPost_ret (v := .tuple #[.slice (some ⟨g9, 0, none⟩) (L1 ++ [0]).length d9, .int .i64 0]) (by simp [results, Tryd.results37, go_sem]) rfl ⟨_, rfl, HS, HW9.out⟩
theorem dput_8 (A0 : Option Addr) (c0 : Nat) (l : List Int) (op A B K : Int) (P : Option Addr) (n c : Nat) (w : World) (hl : l.length ≤ 100000) (s : Int) (L1 : List Int) (h0 : 0 ≤ op) (h1 : op < 256) (hA : Leb.Byt w w.heap.size A0 l)
    (hS : ∀ W, Below w.heap.size w W → Calls Tryd.prog 44 #[.agg #[.int .i64 op, .int .i64 A, .int .i64 B, .int .u64 K, .slice P n c]] W fun en w' => en = .returned (.bool true) ∧ Below W.heap.size W w')
    (hK : ∀ W, Calls Tryd.prog 57 #[.int .i64 op] W fun en w' => en = .returned (.int .i64 8) ∧ Below W.heap.size W w')
    (hG : ∀ W, Calls Tryd.prog 60 #[.int .u8 127, .int .u64 K] W fun en w' => en = .returned (.int .i64 s) ∧ W = w')
    (h1 : ∀ W v, Sl W v (l ++ [op]) → Calls Tryd.prog 59 #[v, .int .i64 s] W (Leb.Laid W (L1))) :
    Calls Tryd.prog 37 #[.slice A0 l.length c0, .agg #[.int .i64 op, .int .i64 A, .int .i64 B, .int .u64 K, .slice P n c]] w (PutTold (L1) 0 w) := by
  have wo : IntKind.u8.wrap op = op := by rw [IntKind.wrap_u8]; omega
  have HS := Lib.hid hS
  have HK := Lib.hid hK
  have HA := Lib.hid hA
  have HA1 := Lib.hid ((Below.refl w.heap.size w).alloc (Nat.le_refl _) (.cells #[.int .i64 op, .int .i64 A, .int .i64 B, .int .u64 K, .slice P n c] 50))
  have HI := Lib.hid (InAt.at_ w w.heap.size op A B K (.slice P n c) 50 rfl)
  have HG := Lib.hid hG
  have H1 := Lib.hid h1
  clear hS hK hA hG h1
  obtain ⟨i0, ic0, ic1, ic2, ic3, ic4, if0, if1, if2, if3, if4⟩ := HI.out
  go_enter Tryd.func37, Tryd.ntmps37
  go_wp2_with fail
  refine (HS.out _ HA1.out).mono ?_
  rintro en w2 ⟨rfl, hb2⟩
  have HW := Lib.hid (HA1.out.trans (hb2.mono HA1.out.size))
  have HI := Lib.hid (HI.out.keep hb2)
  clear hb2
  clear i0 ic0 ic1 ic2 ic3 ic4 if0 if1 if2 if3 if4
  obtain ⟨i0, ic0, ic1, ic2, ic3, ic4, if0, if1, if2, if3, if4⟩ := HI.out
  have hiw : Hid (w.heap.size < w2.heap.size) := HI.out.lt
  go_wp2_with (at_builtin; refine Leb.wp_bytes _ rfl (.tmp 11) (.tmp 12) rfl w2.heap.size w.heap.size _ [] l rfl (Leb.own_none w2) A0 c0 rfl (HA.out.keep (HW.out.alloc HW.out.size _)) (by simp; omega) (by simp) ?_; intro v3 w3 ho3 hb3; have HO3 := Lib.hid ho3; have HB3 := Lib.hid (((Below.refl w2.heap.size w2).alloc (Nat.le_refl _) (.cells #[] 5)).trans hb3); obtain ⟨i0, ic0, ic1, ic2, ic3, ic4, if0, if1, if2, if3, if4⟩ := HI.out.kept HB3.out hiw.out; clear ho3 hb3; go_wp2_with (at_builtin; refine Leb.wp_byte w3 rfl (.tmp 14) (.tmp 18) rfl w2.heap.size _ ([] ++ l) op rfl HO3.out rfl (by simp; omega) HB3.out.size ?_; intro v4 w4 ho4 hb4; have HO4 := Lib.hid ho4; have HB4 := Lib.hid (HB3.out.trans hb4); obtain ⟨i0, ic0, ic1, ic2, ic3, ic4, if0, if1, if2, if3, if4⟩ := HI.out.kept HB4.out hiw.out; clear ho4 hb4; go_wp2_with fail))
  refine (HK.out _).mono ?_
  rintro en w5 ⟨rfl, hb5⟩
  have HO5 : Hid (Leb.Own w5 w2.heap.size _ (l ++ [op])) := HO4.out.keep hb5
  have HW5 := Lib.hid ((HW.out.trans (HB4.out.mono HW.out.size)).trans (hb5.mono (Nat.le_trans HW.out.size HB4.out.size)))
  have HI5 := Lib.hid ((HI.out.kept HB4.out hiw.out).keep hb5)
  have HZ5 : Hid (w2.heap.size ≤ w5.heap.size) := Nat.le_trans HB4.out.size hb5.size
  have HZ2 : Hid (w.heap.size ≤ w2.heap.size) := HW.out.size
  clear hb5
  clear i0 ic0 ic1 ic2 ic3 ic4 if0 if1 if2 if3 if4
  obtain ⟨i0, ic0, ic1, ic2, ic3, ic4, if0, if1, if2, if3, if4⟩ := HI5.out
  go_wp2_with fail
  refine (HG.out _).mono ?_
  rintro en wr ⟨rfl, rfl⟩
  go_wp2_with fail
  refine (H1.out _ _ (own_slI HO5.out)).mono ?_
  rintro en w6 ⟨v6, rfl, ho, hb⟩
  have HO6 := Lib.hid ho
  have HI6 := Lib.hid (HI5.out.keep hb)
  have HW6 := Lib.hid (HW5.out.trans (hb.mono HW5.out.size))
  have HBB := Lib.hid hb
  clear ho hb
  clear i0 ic0 ic1 ic2 ic3 ic4 if0 if1 if2 if3 if4
  obtain ⟨i0, ic0, ic1, ic2, ic3, ic4, if0, if1, if2, if3, if4⟩ := HI6.out
  obtain ⟨⟨g6, d6, rfl⟩, _⟩ := id HO6.out
  go_wp2_with fail
  have HS := own_slI HO6.out
  exact bodyPost_ret (v := .tuple #[.slice (some ⟨g6, 0, none⟩) (L1).length d6, .int .i64 0]) (by simp [results, Tryd.results37, go_sem]) rfl ⟨_, rfl, HS, HW6.out⟩
theorem dput_9 (A0 : Option Addr) (c0 : Nat) (l : List Int) (op A B K : Int) (P : Option Addr) (n c : Nat) (w : World) (hl : l.length ≤ 100000) (s : Int) (L1 : List Int) (h0 : 0 ≤ op) (h1 : op < 256) (hA : Leb.Byt w w.heap.size A0 l)
    (hS : ∀ W, Below w.heap.size w W → Calls Tryd.prog 44 #[.agg #[.int .i64 op, .int .i64 A, .int .i64 B, .int .u64 K, .slice P n c]] W fun en w' => en = .returned (.bool true) ∧ Below W.heap.size W w')
    (hK : ∀ W, Calls Tryd.prog 57 #[.int .i64 op] W fun en w' => en = .returned (.int .i64 9) ∧ Below W.heap.size W w')
    (ws : IntKind.i64.wrap K = s)
    (h1 : ∀ W v, Sl W v (l ++ [op]) → Calls Tryd.prog 59 #[v, .int .i64 s] W (Leb.Laid W (L1))) :
    Calls Tryd.prog 37 #[.slice A0 l.length c0, .agg #[.int .i64 op, .int .i64 A, .int .i64 B, .int .u64 K, .slice P n c]] w (PutTold (L1) 0 w) := by
  have wo : IntKind.u8.wrap op = op := by rw [IntKind.wrap_u8]; omega
  have HS := Lib.hid hS
  have HK := Lib.hid hK
  have HA := Lib.hid hA
  have HA1 := Lib.hid ((Below.refl w.heap.size w).alloc (Nat.le_refl _) (.cells #[.int .i64 op, .int .i64 A, .int .i64 B, .int .u64 K, .slice P n c] 50))
  have HI := Lib.hid (InAt.at_ w w.heap.size op A B K (.slice P n c) 50 rfl)
  have H1 := Lib.hid h1
  clear hS hK hA h1
  obtain ⟨i0, ic0, ic1, ic2, ic3, ic4, if0, if1, if2, if3, if4⟩ := HI.out
  go_enter Tryd.func37, Tryd.ntmps37
  go_wp2_with fail
  refine (HS.out _ HA1.out).mono ?_
  rintro en w2 ⟨rfl, hb2⟩
  have HW := Lib.hid (HA1.out.trans (hb2.mono HA1.out.size))
  have HI := Lib.hid (HI.out.keep hb2)
  clear hb2
  clear i0 ic0 ic1 ic2 ic3 ic4 if0 if1 if2 if3 if4
  obtain ⟨i0, ic0, ic1, ic2, ic3, ic4, if0, if1, if2, if3, if4⟩ := HI.out
  have hiw : Hid (w.heap.size < w2.heap.size) := HI.out.lt
  go_wp2_with (at_builtin; refine Leb.wp_bytes _ rfl (.tmp 11) (.tmp 12) rfl w2.heap.size w.heap.size _ [] l rfl (Leb.own_none w2) A0 c0 rfl (HA.out.keep (HW.out.alloc HW.out.size _)) (by simp; omega) (by simp) ?_; intro v3 w3 ho3 hb3; have HO3 := Lib.hid ho3; have HB3 := Lib.hid (((Below.refl w2.heap.size w2).alloc (Nat.le_refl _) (.cells #[] 5)).trans hb3); obtain ⟨i0, ic0, ic1, ic2, ic3, ic4, if0, if1, if2, if3, if4⟩ := HI.out.kept HB3.out hiw.out; clear ho3 hb3; go_wp2_with (at_builtin; refine Leb.wp_byte w3 rfl (.tmp 14) (.tmp 18) rfl w2.heap.size _ ([] ++ l) op rfl HO3.out rfl (by simp; omega) HB3.out.size ?_; intro v4 w4 ho4 hb4; have HO4 := Lib.hid ho4; have HB4 := Lib.hid (HB3.out.trans hb4); obtain ⟨i0, ic0, ic1, ic2, ic3, ic4, if0, if1, if2, if3, if4⟩ := HI.out.kept HB4.out hiw.out; clear ho4 hb4; go_wp2_with fail))
  refine (HK.out _).mono ?_
  rintro en w5 ⟨rfl, hb5⟩
  have HO5 : Hid (Leb.Own w5 w2.heap.size _ (l ++ [op])) := HO4.out.keep hb5
  have HW5 := Lib.hid ((HW.out.trans (HB4.out.mono HW.out.size)).trans (hb5.mono (Nat.le_trans HW.out.size HB4.out.size)))
  have HI5 := Lib.hid ((HI.out.kept HB4.out hiw.out).keep hb5)
  have HZ5 : Hid (w2.heap.size ≤ w5.heap.size) := Nat.le_trans HB4.out.size hb5.size
  have HZ2 : Hid (w.heap.size ≤ w2.heap.size) := HW.out.size
  clear hb5
  clear i0 ic0 ic1 ic2 ic3 ic4 if0 if1 if2 if3 if4
  obtain ⟨i0, ic0, ic1, ic2, ic3, ic4, if0, if1, if2, if3, if4⟩ := HI5.out
  go_wp2_with fail
  refine (H1.out _ _ (own_slI HO5.out)).mono ?_
  rintro en w6 ⟨v6, rfl, ho, hb⟩
  have HO6 := Lib.hid ho
  have HI6 := Lib.hid (HI5.out.keep hb)
  have HW6 := Lib.hid (HW5.out.trans (hb.mono HW5.out.size))
  have HBB := Lib.hid hb
  clear ho hb
  clear i0 ic0 ic1 ic2 ic3 ic4 if0 if1 if2 if3 if4
  obtain ⟨i0, ic0, ic1, ic2, ic3, ic4, if0, if1, if2, if3, if4⟩ := HI6.out
  obtain ⟨⟨g6, d6, rfl⟩, _⟩ := id HO6.out
  go_wp2_with fail
  have HS := own_slI HO6.out
  exact bodyPost_ret (v := .tuple #[.slice (some ⟨g6, 0, none⟩) (L1).length d6, .int .i64 0]) (by simp [results, Tryd.results37, go_sem]) rfl ⟨_, rfl, HS, HW6.out⟩
end Go.Proofs.YtdmidagcdhhlhaaDoor.Ins
