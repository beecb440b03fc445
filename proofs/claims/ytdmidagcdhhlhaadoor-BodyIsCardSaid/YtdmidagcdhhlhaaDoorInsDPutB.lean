/- The document's Put: an instruction, laid, kind by kind, B. -/
import Derived.Test.YtdmidagcdhhlhaaDoorInsPut
import Derived.Test.YtdmidagcdhhlhaaDoorInsPPuts
namespace Go.Proofs.YtdmidagcdhhlhaaDoor.Ins
open Go.RowKit Ints Typ
set_option maxRecDepth 100000
set_option maxHeartbeats 2000000
set_option linter.unusedVariables false

theorem dput_4 (A0 : Option Addr) (c0 : Nat) (l : List Int) (op A B K : Int) (P : Option Addr) (n c : Nat) (w : World) (hl : l.length ≤ 100000) (L L1 L2 : List Int) (h0 : 0 ≤ op) (h1 : op < 256) (hA : Leb.Byt w w.heap.size A0 l)
    (hS : ∀ W, Below w.heap.size w W → Calls Tryd.prog 44 #[.agg #[.int .i64 op, .int .i64 A, .int .i64 B, .int .u64 K, .slice P n c]] W fun en w' => en = .returned (.bool true) ∧ Below W.heap.size W w')
    (hK : ∀ W, Calls Tryd.prog 57 #[.int .i64 op] W fun en w' => en = .returned (.int .i64 4) ∧ Below W.heap.size W w')
    (hn : L.length = n)
    (hx : SlI w (.slice P n c) L)
    (hall : L.all okN = true)
    (wa : IntKind.u64.wrap A = A)
    (wn : IntKind.u64.wrap (n : Int) = (n : Int))
    (hn64 : n ≤ 64)
    (h1 : ∀ W v, Sl W v (l ++ [op]) → Calls Tryd.prog 58 #[v, .int .u64 (n : Int)] W (Leb.Laid W (L1)))
    (h2 : ∀ W v k, k < n → Sl W v (L1 ++ uLs (L.take k)) → Calls Tryd.prog 58 #[v, .int .u64 (L.getD k 0)] W (Leb.Laid W (L1 ++ uLs (L.take (k + 1)))))
    (h3 : ∀ W v, Sl W v (L1 ++ uLs L) → Calls Tryd.prog 58 #[v, .int .u64 A] W (Leb.Laid W (L2))) :
    Calls Tryd.prog 37 #[.slice A0 l.length c0, .agg #[.int .i64 op, .int .i64 A, .int .i64 B, .int .u64 K, .slice P n c]] w (PutTold (L2) 0 w) := by
  have wo : IntKind.u8.wrap op = op := by rw [IntKind.wrap_u8]; omega
  have HS := Lib.hid hS
  have HK := Lib.hid hK
  have HA := Lib.hid hA
  have HA1 := Lib.hid ((Below.refl w.heap.size w).alloc (Nat.le_refl _) (.cells #[.int .i64 op, .int .i64 A, .int .i64 B, .int .u64 K, .slice P n c] 50))
  have HI := Lib.hid (InAt.at_ w w.heap.size op A B K (.slice P n c) 50 rfl)
  have H1 := Lib.hid h1
  have H2 := Lib.hid h2
  have H3 := Lib.hid h3
  have N1 := Lib.hid hn
  have HX := Lib.hid hx
  have HALL := Lib.hid hall
  clear hS hK hA h1 h2 h3 hn hx hall
  obtain ⟨i0, ic0, ic1, ic2, ic3, ic4, if0, if1, if2, if3, if4⟩ := HI.out
  go_enter Tryd.func37, Tryd.ntmps37
  go_wp2_with fail
  refine (HS.out _ HA1.out).mono ?_
  rintro en w2 ⟨rfl, hb2⟩
  have HW := Lib.hid (HA1.out.trans (hb2.mono HA1.out.size))
  have HI := Lib.hid (HI.out.keep hb2)
  clear hb2
  clear i0 ic0 ic1 ic2 ic3 ic4 if0 if1 if2 if3 if4
  obtain ⟨i0, ic0, ic1, ic2, ic3, ic4, if0, if1, if2, if3, if4⟩ := HI.out
  have hiw : Hid (w.heap.size < w2.heap.size) := HI.out.lt
  go_wp2_with (at_builtin; refine Leb.wp_bytes _ rfl (.tmp 11) (.tmp 12) rfl w2.heap.size w.heap.size _ [] l rfl (Leb.own_none w2) A0 c0 rfl (HA.out.keep (HW.out.alloc HW.out.size _)) (by simp; omega) (by simp) ?_; intro v3 w3 ho3 hb3; have HO3 := Lib.hid ho3; have HB3 := Lib.hid (((Below.refl w2.heap.size w2).alloc (Nat.le_refl _) (.cells #[] 5)).trans hb3); obtain ⟨i0, ic0, ic1, ic2, ic3, ic4, if0, if1, if2, if3, if4⟩ := HI.out.kept HB3.out hiw.out; clear ho3 hb3; go_wp2_with (at_builtin; refine Leb.wp_byte w3 rfl (.tmp 14) (.tmp 18) rfl w2.heap.size _ ([] ++ l) op rfl HO3.out rfl (by simp; omega) HB3.out.size ?_; intro v4 w4 ho4 hb4; have HO4 := Lib.hid ho4; have HB4 := Lib.hid (HB3.out.trans hb4); obtain ⟨i0, ic0, ic1, ic2, ic3, ic4, if0, if1, if2, if3, if4⟩ := HI.out.kept HB4.out hiw.out; clear ho4 hb4; go_wp2_with fail))
  refine (HK.out _).mono ?_
  rintro en w5 ⟨rfl, hb5⟩
  have HO5 : Hid (Leb.Own w5 w2.heap.size _ (l ++ [op])) := HO4.out.keep hb5
  have HW5 := Lib.hid ((HW.out.trans (HB4.out.mono HW.out.size)).trans (hb5.mono (Nat.le_trans HW.out.size HB4.out.size)))
  have HI5 := Lib.hid ((HI.out.kept HB4.out hiw.out).keep hb5)
  have HZ5 : Hid (w2.heap.size ≤ w5.heap.size) := Nat.le_trans HB4.out.size hb5.size
  have HZ2 : Hid (w.heap.size ≤ w2.heap.size) := HW.out.size
  clear hb5
  clear i0 ic0 ic1 ic2 ic3 ic4 if0 if1 if2 if3 if4
  obtain ⟨i0, ic0, ic1, ic2, ic3, ic4, if0, if1, if2, if3, if4⟩ := HI5.out
  go_wp2_with fail
  refine (H1.out _ _ (own_slI HO5.out)).mono ?_
  rintro en w6 ⟨v6, rfl, ho, hb⟩
  have HS6 := Lib.hid (own_slI ho)
  have HI6 := Lib.hid (HI5.out.keep hb)
  have HW6 := Lib.hid (HW5.out.trans (hb.mono HW5.out.size))
  clear ho hb
  clear i0 ic0 ic1 ic2 ic3 ic4 if0 if1 if2 if3 if4
  obtain ⟨i0, ic0, ic1, ic2, ic3, ic4, if0, if1, if2, if3, if4⟩ := HI6.out
  go_wp2_with fail
  clear i0 ic0 ic1 ic2 ic3 ic4 if0 if1 if2 if3 if4
  go_loopw [6, 7] (fun v' j' wr => ∃ k : Nat, j' = .int .i64 (k : Int) ∧ k ≤ n ∧ Sl wr v' (L1 ++ uLs (L.take k)) ∧ InAt wr w.heap.size op A B K (.slice P n c) ∧ Below w.heap.size w wr) (fun _ j' _ => n - (intOf j').toNat)
  case atStart => exact ⟨0, rfl, Nat.zero_le _, by rw [show uLs (L.take 0) = [] from rfl, List.append_nil]; exact HS6.out, HI6.out, HW6.out⟩
  case round =>
    clear HS6 HI6 HW6
    obtain ⟨k, rfl, hk, hS, hI, hW⟩ := hrel
    have HSr := Lib.hid hS
    have HIr := Lib.hid hI
    have HWr := Lib.hid hW
    clear hS hI hW
    obtain ⟨i0, ic0, ic1, ic2, ic3, ic4, if0, if1, if2, if3, if4⟩ := HIr.out
    by_cases hlt : k < n
    · have HXW := Lib.hid (HX.out.keep HWr.out)
      obtain ⟨g1, p1, rfl, hc1⟩ := HXW.out.at_ (j := k) (by rw [N1.out]; exact hlt)
      have hin1 : (0 : Int) ≤ (k : Int) := by omega
      have hin2 : (k : Int) < (n : Int) := by omega
      have HC := Lib.hid (H2.out wr _ k hlt HSr.out)
      have hu0 : 0 ≤ L.getD k 0 ∧ L.getD k 0 ≤ 4294967295 := by
        have h1 := List.all_eq_true.1 HALL.out (L.getD k 0) (by rw [List.getD_eq_getElem?_getD, List.getElem?_eq_getElem (by rw [N1.out]; exact hlt)]; simp)
        unfold okN at h1
        simpa using h1
      generalize L.getD k 0 = u at *
      have hwu : IntKind.u64.wrap u = u := by rw [IntKind.wrap_u64]; omega
      go_wp2_with fail
      refine HC.out.mono ?_
      rintro en w7 ⟨v7, rfl, ho, hb⟩
      have HS7 := Lib.hid (own_slI ho)
      have HI7 := Lib.hid (HIr.out.keep hb)
      have HW7 := Lib.hid (HWr.out.trans (hb.mono HWr.out.size))
      clear ho hb
      go_wp2_with fail
      go_roundw
      case rel => exact ⟨k + 1, by go_num, hlt, HS7.out, HI7.out, HW7.out⟩
      case measure => simp [intOf]; omega
    · obtain rfl : k = n := by omega
      have HT := HSr.out
      rw [List.take_of_length_le (by rw [N1.out]; exact Nat.le_refl _)] at HT
      have HT := Lib.hid HT
      go_wp2_with fail
      refine (H3.out _ _ HT.out).mono ?_
      rintro en w7 ⟨v7, rfl, ho, hb⟩
      have HS7 := own_slI ho
      have HW7 := Lib.hid (HWr.out.trans (hb.mono HWr.out.size))
      obtain ⟨⟨g7, d7, rfl⟩, _⟩ := id ho
      clear ho hb
      go_wp2_with fail
      exact bodyPost_ret (v := .tuple #[.slice (some ⟨g7, 0, none⟩) L2.length d7, .int .i64 0]) (by simp [results, Tryd.results37, go_sem]) rfl ⟨_, rfl, HS7, HW7.out⟩
end Go.Proofs.YtdmidagcdhhlhaaDoor.Ins
