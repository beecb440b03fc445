/- The document's Put: an instruction, laid. -/
import Derived.Test.YtdmidagcdhhlhaaDoorInsSanes
namespace Go.Proofs.YtdmidagcdhhlhaaDoor.Ins
open Go.RowKit Ints Typ
set_option maxRecDepth 100000
set_option maxHeartbeats 2000000

theorem rput_no (v : Value) (op A B K : Int) (P : Option Addr) (n c : Nat) (w : World)
    (hS : ∀ W, Below w.heap.size w W → Calls Tryd.prog 44 #[.agg #[.int .i64 op, .int .i64 A, .int .i64 B, .int .u64 K, .slice P n c]] W fun en w' => en = .returned (.bool false) ∧ Below W.heap.size W w') :
    Calls Tryd.prog 37 #[v, .agg #[.int .i64 op, .int .i64 A, .int .i64 B, .int .u64 K, .slice P n c]] w fun en w' => en = .returned (.tuple #[.slice none 0 0, .int .i64 1]) ∧ Below w.heap.size w w' := by
  have HS := Lib.hid hS
  have HA1 := Lib.hid ((Below.refl w.heap.size w).alloc (Nat.le_refl _) (.cells #[.int .i64 op, .int .i64 A, .int .i64 B, .int .u64 K, .slice P n c] 50))
  have HI := Lib.hid (InAt.at_ w w.heap.size op A B K (.slice P n c) 50 rfl)
  clear hS
  obtain ⟨i0, ic0, ic1, ic2, ic3, ic4, if0, if1, if2, if3, if4⟩ := HI.out
  go_enter Tryd.func37, Tryd.ntmps37
  go_wp2_with fail
  refine (HS.out _ HA1.out).mono ?_
  rintro en w2 ⟨rfl, hb2⟩
  have HW := Lib.hid (HA1.out.trans (hb2.mono HA1.out.size))
  clear hb2
  go_wp2_with fail
  exact bodyPost_ret (v := .tuple #[.slice none 0 0, .int .i64 1]) (by simp [results, Tryd.results37, go_sem]) rfl ⟨rfl, HW.out⟩
theorem rput_plain (A0 : Option Addr) (c0 : Nat) (l : List Int) (op A B K : Int) (P : Option Addr) (n c : Nat) (w : World) (hl : l.length ≤ 100000) (h0 : 0 ≤ op) (h1 : op < 256) (hA : Leb.Byt w w.heap.size A0 l)
    (hS : ∀ W, Below w.heap.size w W → Calls Tryd.prog 44 #[.agg #[.int .i64 op, .int .i64 A, .int .i64 B, .int .u64 K, .slice P n c]] W fun en w' => en = .returned (.bool true) ∧ Below W.heap.size W w')
    (hK : ∀ W, Calls Tryd.prog 57 #[.int .i64 op] W fun en w' => en = .returned (.int .i64 1) ∧ Below W.heap.size W w') :
    Calls Tryd.prog 37 #[.slice A0 l.length c0, .agg #[.int .i64 op, .int .i64 A, .int .i64 B, .int .u64 K, .slice P n c]] w fun en w' => ∃ v B, en = .returned (.tuple #[v, .int .i64 0]) ∧ Leb.Own w' B v (l ++ [op]) ∧ Below w.heap.size w w' := by
  have wo : IntKind.u8.wrap op = op := by rw [IntKind.wrap_u8]; omega
  have HS := Lib.hid hS
  have HK := Lib.hid hK
  have HA := Lib.hid hA
  have HA1 := Lib.hid ((Below.refl w.heap.size w).alloc (Nat.le_refl _) (.cells #[.int .i64 op, .int .i64 A, .int .i64 B, .int .u64 K, .slice P n c] 50))
  have HI := Lib.hid (InAt.at_ w w.heap.size op A B K (.slice P n c) 50 rfl)
  clear hS hK hA
  obtain ⟨i0, ic0, ic1, ic2, ic3, ic4, if0, if1, if2, if3, if4⟩ := HI.out
  go_enter Tryd.func37, Tryd.ntmps37
  go_wp2_with fail
  refine (HS.out _ HA1.out).mono ?_
  rintro en w2 ⟨rfl, hb2⟩
  have HW := Lib.hid (HA1.out.trans (hb2.mono HA1.out.size))
  have HI := Lib.hid (HI.out.keep hb2)
  clear hb2
  clear i0 ic0 ic1 ic2 ic3 ic4 if0 if1 if2 if3 if4
  obtain ⟨i0, ic0, ic1, ic2, ic3, ic4, if0, if1, if2, if3, if4⟩ := HI.out
  have hiw : Hid (w.heap.size < w2.heap.size) := HI.out.lt
  go_wp2_with (at_builtin; refine Leb.wp_bytes _ rfl (.tmp 11) (.tmp 12) rfl w2.heap.size w.heap.size _ [] l rfl (Leb.own_none w2) A0 c0 rfl (HA.out.keep (HW.out.alloc HW.out.size _)) (by simp; omega) (by simp) ?_; intro v3 w3 ho3 hb3; have HO3 := Lib.hid ho3; have HB3 := Lib.hid (((Below.refl w2.heap.size w2).alloc (Nat.le_refl _) (.cells #[] 5)).trans hb3); obtain ⟨i0, ic0, ic1, ic2, ic3, ic4, if0, if1, if2, if3, if4⟩ := HI.out.kept HB3.out hiw.out; clear ho3 hb3; go_wp2_with (at_builtin; refine Leb.wp_byte w3 rfl (.tmp 14) (.tmp 18) rfl w2.heap.size _ ([] ++ l) op rfl HO3.out rfl (by simp; omega) HB3.out.size ?_; intro v4 w4 ho4 hb4; have HO4 := Lib.hid ho4; have HB4 := Lib.hid (HB3.out.trans hb4); obtain ⟨i0, ic0, ic1, ic2, ic3, ic4, if0, if1, if2, if3, if4⟩ := HI.out.kept HB4.out hiw.out; clear ho4 hb4; go_wp2_with fail))
  refine (HK.out _).mono ?_
  rintro en w5 ⟨rfl, hb5⟩
  have HO5 : Hid (Leb.Own w5 w2.heap.size _ (l ++ [op])) := HO4.out.keep hb5
  have HW5 := Lib.hid ((HW.out.trans (HB4.out.mono HW.out.size)).trans (hb5.mono (Nat.le_trans HW.out.size HB4.out.size)))
  clear hb5
  obtain ⟨⟨g5, d5, rfl⟩, _⟩ := id HO5.out
  go_wp2_with fail
  exact bodyPost_ret (v := .tuple #[.slice (some ⟨g5, 0, none⟩) (l ++ [op]).length d5, .int .i64 0]) (by simp [results, Tryd.results37, go_sem]) rfl ⟨_, _, rfl, HO5.out, HW5.out⟩
end Go.Proofs.YtdmidagcdhhlhaaDoor.Ins
