/- Instructions laid, by the document, walked. -/
import Derived.Test.YtdmidagcdhhlhaaDoorBodTgts
import Derived.Test.YtdmidagcdhhlhaaDoorInsDPutAny
namespace Go.Proofs.YtdmidagcdhhlhaaDoor.Bod
open Go.RowKit Ints Typ Ins
set_option maxRecDepth 100000
set_option maxHeartbeats 1000000
set_option linter.unusedVariables false

/-- The bytes of instructions, one behind the other. -/
def ibs (l : List (Ins × Value)) : List Int := l.flatMap fun p => ib p.1
theorem ibs_take {l : List (Ins × Value)} {i : Nat} {p : Ins × Value} (h : l[i]? = some p) : ibs (l.take (i + 1)) = ibs (l.take i) ++ ib p.1 := by
  unfold ibs
  rw [List.take_add_one, h, List.flatMap_append]
  simp
theorem ibs_len {l : List (Ins × Value)} (hu : ∀ p ∈ l, u64R p.1.K) (hs : ∀ p ∈ l, saneI p.1 = true) : (ibs l).length ≤ 700 * l.length := by
  induction l with
  | nil => simp [ibs]
  | cons p l ih =>
    have h1 := (ib_facts (hu p (by simp)) (hs p (by simp))).2.1
    have h2 := ih (fun q hq => hu q (by simp [hq])) (fun q hq => hs q (by simp [hq]))
    unfold ibs at h2 ⊢
    rw [List.flatMap_cons, List.length_append, List.length_cons]
    omega
theorem rput_no {l : List (Ins × Value)} {A A0 : Option Addr} {g off n c m c0 : Nat} {w : World} (hn : l.length = n) (hbig : n ≤ 100000) (hA : n ≠ 0 → A = some ⟨g, off, none⟩) (hr : InRow w (.slice A n c) l) (hS : ¬ SaneB l) :
    Calls Tryd.prog 16 #[.slice A0 m c0, .slice A n c] w (PutTold [] 1 w) := by
  have HC := Lib.hid (rbsane_any hn hbig hA hr)
  have HNO := Lib.hid hS
  clear hS hr hA hn hbig
  go_enter Tryd.func16, Tryd.ntmps16
  go_wp2_with fail
  refine HC.out.mono ?_
  rintro en w2 ⟨⟨b, rfl, hb⟩, hB⟩
  have HB := Lib.hid hB
  cases b with
  | true => exact absurd (hb.1 rfl) HNO.out
  | false =>
    clear hb hB
    go_wp2_with fail
    exact bodyPost_ret (v := .tuple #[.slice none 0 0, .int .i64 1]) (by simp [results, Tryd.results16, go_sem]) rfl ⟨_, rfl, Sl.nil _, HB.out⟩
theorem rput_yes {l : List (Ins × Value)} {A A0 : Option Addr} {g off n c c0 : Nat} {b : List Int} {w : World} (hn : l.length = n) (hbig : n ≤ 100000) (hA : n ≠ 0 → A = some ⟨g, off, none⟩) (hr : InRow w (.slice A n c) l) (hS : SaneB l) (hb : Sl w (.slice A0 b.length c0) b) (hbl : b.length ≤ 10000) :
    Calls Tryd.prog 16 #[.slice A0 b.length c0, .slice A n c] w (PutTold (b ++ ibs l ++ [11]) 0 w) := by
  have HC := Lib.hid (rbsane_any hn hbig hA hr)
  have HSA : Hid (∀ p ∈ l, saneI p.1 = true) := fun p hp => by
    obtain ⟨q, hq⟩ := List.getElem?_of_mem hp
    exact (hS.2.2 q p hq).1
  have HLB : Hid (∀ i, (ibs (l.take i)).length ≤ 2867200) := fun i => by
    have h := ibs_len (l := l.take i) (fun p hp => (hr.2 p (List.mem_of_mem_take hp)).2) (fun p hp => HSA.out p (List.mem_of_mem_take hp))
    have h2 := hS.2.1
    have h3 : (l.take i).length ≤ l.length := by simp; omega
    omega
  have HYES := Lib.hid hS
  have HR := Lib.hid hr
  have HN := Lib.hid hn
  have HA := Lib.hid hA
  have HB := Lib.hid hb.leb
  have HBL := Lib.hid hbl
  obtain ⟨m, hm⟩ : ∃ m, b.length = m := ⟨_, rfl⟩
  rw [hm]
  have HM := Lib.hid hm
  clear hS hr hA hn hb hbl hm
  go_enter Tryd.func16, Tryd.ntmps16
  go_wp2_with fail
  refine HC.out.mono ?_
  rintro en w2 ⟨⟨q, rfl, hq⟩, hB⟩
  have HW := Lib.hid hB
  obtain rfl := hq.2 HYES.out
  clear hq hB
  go_wp2_with (at_builtin; refine Leb.wp_bytes _ rfl (.tmp 13) (.tmp 14) rfl w2.heap.size w.heap.size _ [] b rfl (Leb.own_none w2) A0 c0 (by rw [HM.out]; rfl) (HB.out.keep (HW.out.alloc HW.out.size _)) (by have := HBL.out; simp; omega) (by simp) ?_; intro v3 w3 ho3 hb3; have HO3 := Lib.hid ho3; have HB3 := Lib.hid (((Below.refl w2.heap.size w2).alloc (Nat.le_refl _) (.cells #[] 5)).trans hb3); clear ho3 hb3)
  go_loopw [6, 7] (fun v i' wr => ∃ i : Nat, i' = .int .i64 (i : Int) ∧ i ≤ n ∧ Leb.Own wr w2.heap.size v (b ++ ibs (l.take i)) ∧ Below w2.heap.size w2 wr) (fun _ i' _ => n - (intOf i').toNat)
  case atStart => exact ⟨0, by go_num, by omega, by simpa [ibs] using HO3.out, HB3.out⟩
  case round =>
    clear HO3 HB3
    obtain ⟨i, rfl, hi, hO, hW⟩ := hrel
    have HO := Lib.hid hO
    have HW3 := Lib.hid hW
    clear hO hW
    have HWW := Lib.hid (HW.out.trans (HW3.out.mono HW.out.size))
    obtain ⟨⟨gv, dv, rfl⟩, _⟩ := id HO.out
    by_cases hlt : i < n
    · have hA' := HA.out (by omega)
      subst hA'
      obtain ⟨y, hy⟩ : ∃ y, l[i]? = some y := ⟨_, List.getElem?_eq_getElem (by rw [HN.out]; exact hlt)⟩
      have hm := List.mem_of_getElem? hy
      have HOk := Lib.hid (HR.out.2 _ hm)
      have HSl := Lib.hid (HOk.out.1.keep HWW.out)
      have HX := Lib.hid (HSA.out _ hm)
      obtain ⟨PL, cL, hpo, _⟩ := id HOk.out.1
      have HCI := Lib.hid (at_cells (HR.out.keep HWW.out) hy)
      have HT := Lib.hid (ibs_take hy)
      have HU := Lib.hid HOk.out.2
      have HLi := Lib.hid (HLB.out i)
      have HIL := Lib.hid (ib_facts HU.out HX.out).2.1
      obtain ⟨x, ov⟩ := y
      simp only at hpo HSl HX HT HU HIL
      obtain ⟨nL, hnL⟩ : ∃ nL, x.L.length = nL := ⟨_, rfl⟩
      rw [hnL] at hpo
      subst hpo
      have HP := Lib.hid (dput_any (x := x) (b := []) (Sl.nil wr) (by simp) HSl.out HU.out)
      unfold PutIs at HP
      rw [HX.out] at HP
      have HP : Hid (Calls Tryd.prog 37 #[.slice none 0 0, .agg #[.int .i64 x.op, .int .i64 x.A, .int .i64 x.B, .int .u64 x.K, .slice PL nL cL]] wr (PutTold (ib x) 0 wr)) := HP.out
      clear hy hm hnL
      obtain ⟨q1, q2, q3, q4, q5⟩ := HCI.out
      simp only at q1 q2 q3 q4 q5
      have hin1 : (0 : Int) ≤ (i : Int) := by omega
      have hin2 : (i : Int) < (n : Int) := by omega
      have hw1 : IntKind.i64.wrap ((i : Int) + 1) = (i : Int) + 1 := IntWalk.i64_in _ (by omega)
      generalize ibs (l.take i) = Lb at HO HT HLi
      generalize ib x = ibx at HT HIL HP
      obtain ⟨kb, hkb⟩ : ∃ kb, (b ++ Lb).length = kb := ⟨_, rfl⟩
      rw [hkb] at HO ⊢
      have HKB := Lib.hid hkb
      clear hkb
      go_wp2_with fail
      refine HP.out.mono ?_
      rintro en w4 ⟨v4, rfl, hs4, hb4⟩
      obtain ⟨A4, c4, hv4, _⟩ := id hs4
      subst hv4
      have HS4 := Lib.hid hs4.leb
      have HO4 := Lib.hid (HO.out.keep hb4)
      have HW4 := Lib.hid (HW3.out.trans (hb4.mono HW3.out.size))
      clear hs4 hb4 q1 q2 q3 q4 q5
      go_wp2_with (at_builtin; refine Leb.wp_bytes _ rfl (.tmp 30) (.tmp 31) rfl w2.heap.size w4.heap.size _ (b ++ Lb) ibx rfl HO4.out A4 c4 rfl HS4.out (by have := HBL.out; have := HM.out; have := HLi.out; have := HIL.out; rw [List.length_append]; omega) HW4.out.size ?_; intro v5 w5 ho5 hb5; have HO5 := Lib.hid ho5; have HW5 := Lib.hid (HW4.out.trans hb5); clear ho5 hb5)
      go_roundw
      case rel => exact ⟨i + 1, by go_num, hlt, by rw [HT.out, ← List.append_assoc]; exact HO5.out, HW5.out⟩
      case measure => simp [intOf]; omega
    · obtain rfl : i = n := by omega
      have e : l.take i = l := by rw [← HN.out]; exact List.take_length
      rw [e] at HO ⊢
      clear e
      have HLL := Lib.hid (show (b ++ ibs l).length ≤ 10000000 by
        have h := HLB.out l.length
        rw [List.take_length] at h
        have := HBL.out
        rw [List.length_append]
        omega)
      obtain ⟨kb, hkb⟩ : ∃ kb, (b ++ ibs l).length = kb := ⟨_, rfl⟩
      rw [hkb] at HO ⊢
      clear hkb hlt
      go_wp2_with (at_builtin; refine Leb.wp_byte wr rfl (.tmp 33) (.tmp 34) rfl w2.heap.size _ (b ++ ibs l) 11 rfl HO.out rfl HLL.out HW3.out.size ?_; intro v9 w9 ho9 hb9; have HO9 := Lib.hid ho9; have HW9 := Lib.hid (HWW.out.trans (hb9.mono HW.out.size)); obtain ⟨⟨g9, d9, rfl⟩, _⟩ := id ho9; clear ho9 hb9; go_wp2_with fail)
      have HS := own_slI HO9.out
      refine bodyPost_ret (v := .tuple #[_, .int .i64 0]) (by simp [results, Tryd.results16, go_sem]) rfl ⟨_, rfl, HS, HW9.out⟩
end Go.Proofs.YtdmidagcdhhlhaaDoor.Bod
