/- InstrRow walked: instructions one behind the other are read as they were laid. -/
import Derived.Test.YtmjimijolfjhmaaDoorInsPAwake
import Derived.Test.YtmjimijolfjhmaaDoorInsTold
import Derived.Test.YtmjimijolfjhmaaDoorInsStab
import Derived.Test.YtmjimijolfjhmaaDoorInsRow
namespace Go.Proofs.YtmjimijolfjhmaaDoor.Ins
open Go.RowKit Ints Typ
set_option maxRecDepth 100000
set_option maxHeartbeats 2000000
set_option linter.unusedVariables false

theorem own_lower {w : World} {B B' : Nat} {v : Value} {l : List Int} (h : Leb.Own w B v l) (hB : B' ≤ B) : OwnB w B' v l := by
  obtain ⟨_, h1, h2⟩ := h
  refine ⟨h1, ?_⟩
  rcases h2 with h2 | ⟨g, cap, cur, hv, hb, hr⟩
  · exact .inl h2
  · exact .inr ⟨g, cap, cur, hv, Nat.le_trans hB hb, hr⟩
/-- Bytes of the call's own, and an error: told. -/
def PutOwn (L : List Int) (n : Int) (w : World) (en : Ending) (w' : World) : Prop := ∃ v, en = .returned (.tuple #[v, .int .i64 n]) ∧ OwnB w' w.heap.size v L ∧ Below w.heap.size w w'
theorem pput_yes2 (A0 : Option Addr) (c0 : Nat) (b L : List Int) (op A B K : Int) (P : Option Addr) (n c : Nat) (w : World) (hv : Sl w (.slice A0 b.length c0) b) (hb : b.length ≤ 90000) (hL0 : 0 < L.length) (hL : L.length ≤ 10000)
    (hS : ∀ W, Below w.heap.size w W → Calls Tryd.prog 18 #[.agg #[.int .i64 op, .int .i64 A, .int .i64 B, .int .u64 K, .slice P n c]] W fun en w' => en = .returned (.bool true) ∧ Below W.heap.size W w')
    (hD : ∀ W, Below w.heap.size w W → Calls Tryd.prog 27 #[.agg #[.int .i64 op, .int .i64 A, .int .i64 B, .int .u64 K, .slice P n c]] W (SlTold L W)) :
    Calls Tryd.prog 13 #[.slice A0 b.length c0, .agg #[.int .i64 op, .int .i64 A, .int .i64 B, .int .u64 K, .slice P n c]] w (PutOwn (b ++ L) 0 w) := by
  have HS := Lib.hid hS
  have HD := Lib.hid hD
  have HV := Lib.hid hv
  have HL := Lib.hid hL
  have HL0 := Lib.hid hL0
  have HBl := Lib.hid hb
  have HA1 := Lib.hid ((Below.refl w.heap.size w).alloc (Nat.le_refl _) (.cells #[.int .i64 op, .int .i64 A, .int .i64 B, .int .u64 K, .slice P n c] 26))
  have HI := Lib.hid (InAt.at_ w w.heap.size op A B K (.slice P n c) 26 rfl)
  clear hS hD hv hL hb hL0
  obtain ⟨m, hm⟩ : ∃ m, b.length = m := ⟨_, rfl⟩
  rw [hm]
  have HM := Lib.hid hm
  clear hm
  obtain ⟨i0, ic0, ic1, ic2, ic3, ic4, if0, if1, if2, if3, if4⟩ := HI.out
  go_enter Tryd.func13, Tryd.ntmps13
  go_wp2_with fail
  refine (HS.out _ HA1.out).mono ?_
  rintro en w2 ⟨rfl, hb2⟩
  have HI := Lib.hid (HI.out.keep hb2)
  have HW := Lib.hid (HA1.out.trans (hb2.mono HA1.out.size))
  clear hb2 i0 ic0 ic1 ic2 ic3 ic4 if0 if1 if2 if3 if4
  obtain ⟨i0, ic0, ic1, ic2, ic3, ic4, if0, if1, if2, if3, if4⟩ := HI.out
  go_wp2_with fail
  refine (HD.out _ HW.out).mono ?_
  rintro en w3 ⟨v3, rfl, hs3, hb3⟩
  have HW3 := Lib.hid (HW.out.trans (hb3.mono HW.out.size))
  obtain ⟨A3, c3, rfl, _⟩ := id hs3
  have HS3 := Lib.hid hs3
  obtain ⟨m3, hm3⟩ : ∃ m3, L.length = m3 := ⟨_, rfl⟩
  rw [hm3]
  have HM3 := Lib.hid hm3
  clear hb3 hs3 hm3 i0 ic0 ic1 ic2 ic3 ic4 if0 if1 if2 if3 if4
  go_wp2_with fail
  have HW4 := Lib.hid (HW3.out.alloc HW3.out.size (.cells #[.slice A0 m c0, .slice A3 m3 c3] 22))
  have HC : Hid (Calls Tryd.prog 26 #[.slice (some ⟨w3.heap.size, 0, none⟩) 2 2] (w3.alloc (.cells #[.slice A0 m c0, .slice A3 m3 c3] 22)) (Leb.Laid (w3.alloc (.cells #[.slice A0 m c0, .slice A3 m3 c3] 22)) (b ++ L))) := by
    have hba := (Below.refl w3.heap.size w3).alloc (Nat.le_refl _) (.cells #[.slice A0 m c0, .slice A3 m3 c3] 22)
    exact concat_any w3.heap.size A0 A3 c0 c3 b L _ (by rw [HM.out]; simp) (by rw [HM3.out]; simp) (by simp) ((HV.out.keep HW3.out).keep hba).leb ((HS3.out).keep hba).leb (by have := HBl.out; omega) (by have := HL.out; omega) (by have := HL0.out; omega)
  refine HC.out.mono ?_
  rintro en w5 ⟨v5, rfl, ho5, hb5⟩
  have HO5 := Lib.hid (own_lower ho5 HW4.out.size)
  have HW5 := Lib.hid (HW4.out.trans (hb5.mono HW4.out.size))
  obtain ⟨⟨g5, d5, rfl⟩, _⟩ := id ho5
  clear ho5 hb5
  go_wp2_with fail
  exact bodyPost_ret (v := .tuple #[.slice (some ⟨g5, 0, none⟩) (b ++ L).length d5, .int .i64 0]) (by simp [results, Tryd.results13, go_sem]) rfl ⟨_, rfl, HO5.out, HW5.out⟩
theorem ownB_lower {w : World} {B B' : Nat} {v : Value} {l : List Int} (h : OwnB w B v l) (hB : B' ≤ B) : OwnB w B' v l := by
  obtain ⟨h1, h2⟩ := h
  refine ⟨h1, ?_⟩
  rcases h2 with h2 | ⟨g, cap, cur, hv, hb, hr⟩
  · exact .inl h2
  · exact .inr ⟨g, cap, cur, hv, Nat.le_trans hB hb, hr⟩
theorem pput_n {x : Ins} {o v : Value} {w : World} (hx : SlI w o x.L) (hu : u64R x.K) (hT : KTab w) (hs : saneI x = false) : Calls Tryd.prog 13 #[v, iv x o] w (PutTold [] 1 w) := by
  obtain ⟨P, c, ho, _⟩ := id hx
  subst ho
  exact pput_no _ _ _ _ _ P _ c w fun W hW => hs ▸ psane_any (hx.keep hW) hu (hT.keep hW)
theorem pput_y {x : Ins} {o v : Value} {b : List Int} {w : World} (hv : Sl w v b) (hb : b.length ≤ 90000) (hx : SlI w o x.L) (hu : u64R x.K) (hT : KTab w) (hs : saneI x = true) : Calls Tryd.prog 13 #[v, iv x o] w (PutOwn (b ++ ib x) 0 w) := by
  obtain ⟨P, c, ho, _⟩ := id hx
  obtain ⟨A0, c0, hv0, _⟩ := id hv
  subst ho hv0
  obtain ⟨h1, h2, _⟩ := ib_facts hu hs
  exact pput_yes2 A0 c0 b (ib x) _ _ _ _ P _ c w hv hb h1 (by omega) (fun W hW => hs ▸ psane_any (hx.keep hW) hu (hT.keep hW)) fun W hW => plaid_any (hx.keep hW) hu (hT.keep hW) hs
/-- The bytes of instructions in a row. -/
def ibs (l : List (Ins × Value)) : List Int := l.flatMap fun p => ib p.1
/-- Those of the first k that may be. -/
def gd (l : List (Ins × Value)) (k : Nat) : List (Ins × Value) := (l.take k).filter fun p => saneI p.1
theorem gd_yes {l : List (Ins × Value)} {k : Nat} {p : Ins × Value} (hp : l[k]? = some p) (hs : saneI p.1 = true) : gd l (k + 1) = gd l k ++ [p] := by
  obtain ⟨hk, rfl⟩ := List.getElem?_eq_some_iff.1 hp
  unfold gd
  rw [List.take_succ_eq_append_getElem hk, List.filter_append]
  simp [hs]
theorem gd_no {l : List (Ins × Value)} {k : Nat} {p : Ins × Value} (hp : l[k]? = some p) (hs : saneI p.1 = false) : gd l (k + 1) = gd l k := by
  obtain ⟨hk, rfl⟩ := List.getElem?_eq_some_iff.1 hp
  unfold gd
  rw [List.take_succ_eq_append_getElem hk, List.filter_append]
  simp [hs]
theorem gd_mem {l : List (Ins × Value)} {k : Nat} {p : Ins × Value} (h : p ∈ gd l k) : p ∈ l ∧ saneI p.1 = true := by
  unfold gd at h
  rw [List.mem_filter] at h
  exact ⟨List.mem_of_mem_take h.1, h.2⟩
theorem gd_len (l : List (Ins × Value)) (k : Nat) : (gd l k).length ≤ k := by
  unfold gd
  exact Nat.le_trans (List.length_filter_le _ _) (by rw [List.length_take]; omega)
theorem ibs_len : ∀ (l : List (Ins × Value)), (∀ p ∈ l, saneI p.1 = true ∧ u64R p.1.K) → (ibs l).length ≤ 700 * l.length
  | [], _ => by simp [ibs]
  | p :: l, h => by
    have h1 := ibs_len l fun q hq => h q (by simp [hq])
    obtain ⟨hs, hu⟩ := h p (by simp)
    have h2 := (ib_facts hu hs).2.1
    have e : ibs (p :: l) = ib p.1 ++ ibs l := rfl
    rw [e, List.length_append, List.length_cons]
    omega
theorem ibs_byte {l : List (Ins × Value)} (h : ∀ p ∈ l, saneI p.1 = true ∧ u64R p.1.K) : ∀ x ∈ ibs l, 0 ≤ x ∧ x < 256 := fun x hx => by
  obtain ⟨p, hp, hx⟩ := List.mem_flatMap.1 hx
  exact (ib_facts (h p hp).2 (h p hp).1).2.2.1 x hx
theorem ibs_split {l : List (Ins × Value)} {k : Nat} {p : Ins × Value} (hp : l[k]? = some p) : ibs l = ibs (l.take k) ++ (ib p.1 ++ ibs (l.drop (k + 1))) ∧ ibs (l.take (k + 1)) = ibs (l.take k) ++ ib p.1 := by
  obtain ⟨hk, rfl⟩ := List.getElem?_eq_some_iff.1 hp
  unfold ibs
  constructor
  · conv => lhs; rw [← List.take_append_drop k l]
    rw [List.flatMap_append, List.drop_eq_getElem_cons hk, List.flatMap_cons]
  · rw [List.take_succ_eq_append_getElem hk, List.flatMap_append]
    simp
theorem irun_at (g off k n c : Nat) (W : World) (h1 : (0 : Int) ≤ (k : Int)) (h2 : (k : Int) < (n : Int)) : (Instr.indexAt 44 (.slice (some ⟨g, off, none⟩) n c) (.int .i64 (k : Int))).run Tryd.prog W = .ok (.pointer (some ⟨g, off + k * 5, none⟩)) W := by go_simp
theorem InCells.run {W : World} {g o : Nat} {x : Ins} {P : Option Addr} {n c : Nat} (H : InCells W g o (x, .slice P n c)) : (Instr.loadAt 26 (.pointer (some ⟨g, o, none⟩))).run Tryd.prog W = .ok (.agg #[.int .i64 x.op, .int .i64 x.A, .int .i64 x.B, .int .u64 x.K, .slice P n c]) W := by
  obtain ⟨q1, q2, q3, q4, q5⟩ := H
  simp only at q1 q2 q3 q4 q5
  go_simp
theorem at_same {W : World} {g off n c : Nat} {l : List (Ins × Value)} (h : InRow W (.slice (some ⟨g, off, none⟩) n c) l) {j : Nat} {p : Ins × Value} (hj : l[j]? = some p) : InCells W g (off + j * 5) p := by
  obtain ⟨g', off', e, h1, _⟩ := h.at_ hj
  injection e with e
  injection e with e1 e2
  subst e1 e2
  exact h1
theorem irow_big (A : Option Addr) (n c : Nat) (w : World) (t1 : decide ((40 : Int) < (n : Int)) = true) (hK : KTab w) : Calls Tryd.prog 7 #[.slice A n c] w fun e w' => e = .returned (.bool true) ∧ Below w.heap.size w w' := by
  go_enter Tryd.func7, Tryd.ntmps7
  go_wp2_with fail
  refine (awake_any _ hK).mono ?_
  rintro e w1 ⟨rfl, hb1⟩
  go_wp2_with fail
  go_ret
  exact ⟨rfl, hb1⟩
theorem irow_few (A : Option Addr) (n c : Nat) (l : List (Ins × Value)) (w : World) (t1 : decide ((40 : Int) < (n : Int)) = false) (hK : KTab w) (hn : l.length = n) (hr : InRow w (.slice A n c) l) : Calls Tryd.prog 7 #[.slice A n c] w fun e w' => e = .returned (.bool true) ∧ Below w.heap.size w w' := by
  have hn40 : n ≤ 40 := by have := of_decide_eq_false t1; omega
  have HR := Lib.hid hr
  have HN := Lib.hid hn
  have HKT := Lib.hid hK
  clear hr hn
  go_enter Tryd.func7, Tryd.ntmps7
  go_wp2_with fail
  refine (awake_any _ hK).mono ?_
  rintro e w1 ⟨rfl, hb1⟩
  have HW := Lib.hid hb1
  clear hb1 hK
  go_wp2_with fail
  go_loopw [4, 5, 6] (fun b' g' j' wr => ∃ k : Nat, j' = .int .i64 (k : Int) ∧ k ≤ n ∧ OwnB wr w.heap.size b' (ibs (gd l k)) ∧ OwnR wr w.heap.size g' (gd l k) ∧ Below w.heap.size w wr) (fun _ _ j' _ => n - (intOf j').toNat)
  case atStart => exact ⟨0, rfl, Nat.zero_le _, ownB_nil _ _, ownR_nil _ _, HW.out⟩
  case round =>
    clear HW
    obtain ⟨k, rfl, hk, hS, hO, hW⟩ := hrel
    have HS := Lib.hid hS
    have HO := Lib.hid hO
    have HW := Lib.hid hW
    clear hS hO hW
    have hgok : ∀ p ∈ gd l k, saneI p.1 = true ∧ u64R p.1.K := fun p hp => ⟨(gd_mem hp).2, (HR.out.2 p (gd_mem hp).1).2⟩
    have HG := Lib.hid hgok
    have HGL : Hid ((ibs (gd l k)).length ≤ 28000) := by
      have := ibs_len _ hgok
      have := gd_len l k
      show _ ≤ _
      omega
    clear hgok
    by_cases hlt : k < n
    · obtain ⟨p, hp⟩ : ∃ p, l[k]? = some p := ⟨_, List.getElem?_eq_getElem (by rw [HN.out]; exact hlt)⟩
      obtain ⟨g, off, rfl, hC, hOk⟩ := (HR.out.keep HW.out).at_ hp
      have HP := Lib.hid hp
      obtain ⟨x, o⟩ := p
      have hOk := hOk
      obtain ⟨PL, cL, ho, _⟩ := id hOk.1
      simp only at ho
      obtain ⟨nL, hnL⟩ : ∃ nL, x.L.length = nL := ⟨_, rfl⟩
      rw [hnL] at ho
      subst ho
      have HOK := Lib.hid hOk
      have HCC := Lib.hid hC
      clear hOk hp
      obtain ⟨q1, q2, q3, q4, q5⟩ := hC
      simp only at q1 q2 q3 q4 q5
      have hin1 : (0 : Int) ≤ (k : Int) := by omega
      have hin2 : (k : Int) < (n : Int) := by omega
      cases hsm : decide ((nL : Int) ≤ 100) with
      | false =>
        have HSM := Lib.hid (fun W => small_core x.op x.A x.B x.K PL nL cL W false hsm)
        clear hsm
        go_wp2_with fail
        refine (HSM.out _).mono ?_
        rintro e w2 ⟨rfl, hb⟩
        have HW := Lib.hid (HW.out.trans (hb.mono HW.out.size))
        clear hb
        go_wp2_with fail
        go_ret
        exact ⟨rfl, HW.out⟩
      | true =>
        have HSM := Lib.hid (fun W => small_core x.op x.A x.B x.K PL nL cL W true hsm)
        clear hsm
        cases hsn : saneI x with
        | false =>
          have HPUT : Hid (∀ W v, Below w.heap.size w W → SlI W (.slice PL nL cL) x.L → Calls Tryd.prog 13 #[v, .agg #[.int .i64 x.op, .int .i64 x.A, .int .i64 x.B, .int .u64 x.K, .slice PL nL cL]] W (PutTold [] 1 W)) := fun W v hW hx => pput_n hx HOK.out.2 (HKT.out.keep hW) hsn
          have HG2 := Lib.hid (gd_no HP.out hsn)
          clear hsn
          go_wp2_with fail
          refine (HSM.out _).mono ?_
          rintro e w2 ⟨rfl, hb⟩
          have HW2 := Lib.hid (HW.out.trans (hb.mono HW.out.size))
          have HS2 := Lib.hid (HS.out.keep hb)
          have HO2 := Lib.hid (HO.out.keep hb)
          have HOK2 := Lib.hid (HOK.out.1.keep hb)
          have HR2 := Lib.hid ((HR.out.keep HW.out).keep hb)
          clear hb q1 q2 q3 q4 q5
          obtain ⟨g', off', eg, ⟨q1, q2, q3, q4, q5⟩, _⟩ := HR2.out.at_ HP.out
          injection eg with eg
          injection eg with eg1 eg2
          subst eg1 eg2
          simp only at q1 q2 q3 q4 q5
          go_wp2_with fail
          refine (HPUT.out _ _ HW2.out HOK2.out).mono ?_
          rintro e w3 ⟨v3, rfl, hs3, hb⟩
          have HW3 := Lib.hid (HW2.out.trans (hb.mono HW2.out.size))
          have HS3 := Lib.hid (HS2.out.keep hb)
          have HO3 := Lib.hid (HO2.out.keep hb)
          obtain ⟨A3, c3, rfl, _⟩ := hs3
          clear hb q1 q2 q3 q4 q5
          go_wp2_with fail
          go_roundw
          case rel => exact ⟨k + 1, by go_num, hlt, by rw [HG2.out]; exact HS3.out, by rw [HG2.out]; exact HO3.out, HW3.out⟩
          case measure => simp [intOf]; omega
        | true =>
          have HPUT : Hid (∀ W v, Below w.heap.size w W → Sl W v (ibs (gd l k)) → SlI W (.slice PL nL cL) x.L → Calls Tryd.prog 13 #[v, .agg #[.int .i64 x.op, .int .i64 x.A, .int .i64 x.B, .int .u64 x.K, .slice PL nL cL]] W (PutOwn (ibs (gd l k) ++ ib x) 0 W)) := fun W v hW hv hx => pput_y hv (by have := HGL.out; omega) hx HOK.out.2 (HKT.out.keep hW) hsn
          have HG2 := Lib.hid (gd_yes HP.out hsn)
          clear hsn
          go_wp2_with fail
          refine (HSM.out _).mono ?_
          rintro e w2 ⟨rfl, hb⟩
          have HW2 := Lib.hid (HW.out.trans (hb.mono HW.out.size))
          have HS2 := Lib.hid (HS.out.keep hb)
          have HO2 := Lib.hid (HO.out.keep hb)
          have HOK2 := Lib.hid (HOK.out.1.keep hb)
          have HR2 := Lib.hid ((HR.out.keep HW.out).keep hb)
          clear hb q1 q2 q3 q4 q5
          obtain ⟨g', off', eg, ⟨q1, q2, q3, q4, q5⟩, _⟩ := HR2.out.at_ HP.out
          injection eg with eg
          injection eg with eg1 eg2
          subst eg1 eg2
          simp only at q1 q2 q3 q4 q5
          go_wp2_with fail
          refine (HPUT.out _ _ HW2.out (OwnB.sl HS2.out) HOK2.out).mono ?_
          rintro e w3 ⟨v3, rfl, hs3, hb⟩
          have HW3 := Lib.hid (HW2.out.trans (hb.mono HW2.out.size))
          have HO3 := Lib.hid (HO2.out.keep hb)
          have HR3 := Lib.hid (HR2.out.keep hb)
          have HS3 := Lib.hid (ownB_lower hs3 HW2.out.size)
          clear hb hs3 q1 q2 q3 q4 q5
          obtain ⟨g', off', eg, ⟨q1, q2, q3, q4, q5⟩, _⟩ := HR3.out.at_ HP.out
          injection eg with eg
          injection eg with eg1 eg2
          subst eg1 eg2
          simp only at q1 q2 q3 q4 q5
          go_wp2_with (at_builtin; refine wp_oneR w3 rfl (.tmp 44) (.tmp 49) rfl w.heap.size _ (gd l k) (x, .slice PL nL cL) ⟨_, _, _, rfl⟩ rfl HO3.out rfl (by have := gd_len l k; omega) HW3.out.size ?_; intro v4 w4 ho4 hb4 hk4; have HO4 := Lib.hid ho4; have HS4 := Lib.hid (Ins.OwnB.apart HS3.out HO3.out hk4); have HW4 := Lib.hid (HW3.out.trans hb4); clear ho4 hb4 hk4 q1 q2 q3 q4 q5; go_wp2_with fail)
          go_roundw
          case rel => exact ⟨k + 1, by go_num, hlt, by rw [HG2.out, show ibs (gd l k ++ [(x, .slice PL nL cL)]) = ibs (gd l k) ++ ib x from by simp [ibs]]; exact HS4.out, by rw [HG2.out]; exact HO4.out, HW4.out⟩
          case measure => simp [intOf]; omega
    · obtain rfl : k = n := by omega
      have HSL := Lib.hid (OwnB.sl HS.out)
      have HGR := Lib.hid (HO.out.row fun p hp => ((HR.out.keep HW.out).2 p (gd_mem hp).1))
      obtain ⟨Ab, cb, rfl, _⟩ := HSL.out
      obtain ⟨Pg, cg, rfl⟩ := HO.out.form
      have HGM := HG.out
      have hmk := gd_len l k
      clear HS HO HG
      generalize gd l k = G at *
      have HG := Lib.hid HGM
      have HGB : Hid (∀ x ∈ ibs G, 0 ≤ x ∧ x < 256) := ibs_byte HGM
      clear HGM
      obtain ⟨mm, hmm⟩ : ∃ mm, G.length = mm := ⟨_, rfl⟩
      rw [hmm] at HGR hmk ⊢
      have HMM := Lib.hid hmm
      clear hmm
      obtain ⟨nb, hnb⟩ : ∃ nb, (ibs G).length = nb := ⟨_, rfl⟩
      rw [hnb] at HSL HGL ⊢
      have HNB := Lib.hid hnb
      clear hnb
      go_wp2_with fail
      rename_i wx
      go_loopw [9, 10] (fun a' j' wr => ∃ i : Nat, j' = .int .i64 (i : Int) ∧ i ≤ mm ∧ a' = .int .i64 ((ibs (G.take i)).length : Int) ∧ Sl wr (.slice Ab nb cb) (ibs G) ∧ InRow wr (.slice Pg mm cg) G ∧ Below w.heap.size w wr) (fun _ j' _ => mm - (intOf j').toNat)
      case atStart => exact ⟨0, rfl, Nat.zero_le _, rfl, HSL.out, HGR.out, HW.out⟩
      case round =>
        clear HSL HGR HW
        obtain ⟨i, rfl, hi, rfl, hS, hG, hW⟩ := hrel
        have HS := Lib.hid hS
        have HGR := Lib.hid hG
        have HW := Lib.hid hW
        clear hS hG hW
        by_cases hlt2 : i < mm
        · obtain ⟨q, hq⟩ : ∃ q, G[i]? = some q := ⟨_, List.getElem?_eq_getElem (by rw [HMM.out]; exact hlt2)⟩
          obtain ⟨g, off, rfl, hC, hOk⟩ := HGR.out.at_ hq
          obtain ⟨hs, hu⟩ := HG.out _ (List.mem_of_getElem? hq)
          obtain ⟨e1, e2⟩ := ibs_split hq
          obtain ⟨x, o⟩ := q
          obtain ⟨PL, cL, ho, _⟩ := id hOk.1
          simp only at ho hs hu e1 e2
          obtain ⟨nL, hnL⟩ : ∃ nL, x.L.length = nL := ⟨_, rfl⟩
          rw [hnL] at ho
          subst ho
          have hi1 := (ib_facts hu hs).1
          have E2 : Hid ((ibs (G.take (i + 1))).length = (ibs (G.take i)).length + (ib x).length) := by show _ = _; rw [e2, List.length_append]
          have HRD : Hid (∀ W, Below w.heap.size w W → Sl W (.slice Ab nb cb) (ibs G) → Calls Tryd.prog 11 #[.slice Ab nb cb, .int .i64 ((ibs (G.take i)).length : Int)] W (RiTold (x, (((ibs (G.take i)).length + (ib x).length : Nat) : Int), 0) W)) := fun W hW hv => by
            have := pread_any ((ibs (G.take i)).length : Int) hv HGB.out (by rw [HNB.out]; have := HGL.out; omega) (HKT.out.keep hW)
            rw [e1, rdo_back hu hs] at this
            exact this
          have HNL := Lib.hid hnL
          have HCC := Lib.hid hC
          have HOK := Lib.hid hOk
          have HQ := Lib.hid hq
          clear hC hOk hs hu e1 e2 hnL hq
          obtain ⟨aa, haa⟩ : ∃ aa, (ibs (G.take i)).length = aa := ⟨_, rfl⟩
          rw [haa] at HRD E2 ⊢
          obtain ⟨nn, hnn⟩ : ∃ nn, aa + (ib x).length = nn := ⟨_, rfl⟩
          rw [hnn] at HRD E2
          have HLE : Hid (decide ((nn : Int) ≤ (aa : Int)) = false) := by show _ = _; simp; omega
          have HSM : Hid (∀ W p r, SlI W p x.L → SlI W r x.L → Calls Tryd.prog 20 #[.agg #[.int .i64 x.op, .int .i64 x.A, .int .i64 x.B, .int .u64 x.K, p], .agg #[.int .i64 x.op, .int .i64 x.A, .int .i64 x.B, .int .u64 x.K, r]] W fun e w' => e = .returned (.bool true) ∧ Below W.heap.size W w') := fun W p r hp hr => by
            have := psame_any (x := x) (y := x) hp hr
            rw [show smI x x = true from by unfold smI; simp] at this
            exact this
          clear haa hnn hi1
          have hin1 : (0 : Int) ≤ (i : Int) := by omega
          have hin2 : (i : Int) < (mm : Int) := by omega
          go_wp2_with fail
          refine (HRD.out _ HW.out HS.out).mono ?_
          rintro e w5 ⟨o2, rfl, ho2, hb⟩
          obtain ⟨P2, c2, rfl⟩ := ho2.form
          have HO2 := Lib.hid (OwnI.slI ho2)
          rw [HNL.out] at HO2
          rw [HNL.out]
          have HT := Lib.hid ((Below.refl w5.heap.size w5).alloc (Nat.le_refl _) (.cells #[.int .i64 x.op, .int .i64 x.A, .int .i64 x.B, .int .u64 x.K, .slice P2 nL c2] 26))
          have HI := Lib.hid (InAt.at_ w5 w5.heap.size x.op x.A x.B x.K (.slice P2 nL c2) 26 rfl)
          have HO2 := Lib.hid (HO2.out.keep HT.out)
          have HS := Lib.hid ((HS.out.keep hb).keep HT.out)
          have HGR := Lib.hid ((HGR.out.keep hb).keep HT.out)
          have HW := Lib.hid ((HW.out.trans (hb.mono HW.out.size)).trans (HT.out.mono (HW.out.trans (hb.mono HW.out.size)).size))
          clear hb ho2
          go_wp2_with fail
          refine Stab.region 88 [.is (.int .i64 0), .is (.bool false), .is (.bool false), .is (.agg #[.int .i64 x.op, .int .i64 x.A, .int .i64 x.B, .int .u64 x.K, .slice P2 nL c2]), .is (.slice (some ⟨g, off, none⟩) mm cg), .is (.int .i64 (i : Int)), .is (.pointer (some ⟨g, off + i * 5, none⟩)), .is (.agg #[.int .i64 x.op, .int .i64 x.A, .int .i64 x.B, .int .u64 x.K, .slice PL nL cL]), .is (.bool true), .is (.bool (!true)), .is (.bool (!true)), .is (.bool (!true)), .is (.int .i64 (nn : Int)), .is (.int .i64 (aa : Int)), .is (.bool false), .is (.bool false)] (by kernel_rfl) (by kernel_rfl) rfl rfl ?_ ?_
          · with_reducible refine Stab.steps_cons ?_ ?_ ?_
            · exact Stab.owes_move rfl rfl rfl
            · exact trivial
            with_reducible refine Stab.steps_cons ?_ ?_ ?_
            · exact Stab.owes_bin rfl rfl rfl (fun W => Stab.run_neE _ _ 0 0 false rfl W) rfl
            · exact trivial
            with_reducible refine Stab.steps_cons ?_ ?_ ?_
            · exact Stab.owes_move rfl rfl rfl
            · exact trivial
            with_reducible refine Stab.steps_cons ?_ ?_ ?_
            · exact Stab.owes_load rfl (fun v W hb hv => by subst hv; exact (HI.out.keep hb).run) rfl
            · exact trivial
            with_reducible refine Stab.steps_cons ?_ ?_ ?_
            · exact Stab.owes_move rfl rfl rfl
            · exact trivial
            with_reducible refine Stab.steps_cons ?_ ?_ ?_
            · exact Stab.owes_move rfl rfl rfl
            · exact trivial
            with_reducible refine Stab.steps_cons ?_ ?_ ?_
            · exact Stab.owes_indexAt rfl rfl rfl (fun W => irun_at _ _ _ _ _ W hin1 hin2) rfl
            · exact trivial
            with_reducible refine Stab.steps_cons ?_ ?_ ?_
            · exact Stab.owes_load rfl (fun v W hb hv => by subst hv; exact InCells.run (at_same (HGR.out.keep hb) HQ.out)) rfl
            · exact trivial
            with_reducible refine Stab.steps_cons ?_ ?_ ?_
            · (refine Stab.owes_call Tryd.func20 (by kernel_rfl) (by kernel_rfl) rfl (fun vs W hb hall => ?_) rfl; obtain ⟨_, _, rfl, rfl, _, _, rfl, rfl, rfl⟩ := hall; refine (HSM.out W _ _ (HO2.out.keep hb) ((HGR.out.keep hb).2 _ (List.mem_of_getElem? HQ.out)).1).mono ?_; rintro e w7 ⟨rfl, hb2⟩; exact ⟨_, rfl, hb2, rfl⟩)
            · exact trivial
            with_reducible refine Stab.steps_cons ?_ ?_ ?_
            · exact Stab.owes_not rfl rfl (fun W => Stab.run_not _ W) rfl
            · exact trivial
            with_reducible refine Stab.steps_cons ?_ ?_ ?_
            · exact Stab.owes_pick rfl rfl rfl rfl
            · exact trivial
            with_reducible refine Stab.steps_cons ?_ ?_ ?_
            · exact Stab.owes_move rfl rfl rfl
            · exact trivial
            with_reducible refine Stab.steps_cons ?_ ?_ ?_
            · exact Stab.owes_move rfl rfl rfl
            · exact trivial
            with_reducible refine Stab.steps_cons ?_ ?_ ?_
            · exact Stab.owes_move rfl rfl rfl
            · exact trivial
            with_reducible refine Stab.steps_cons ?_ ?_ ?_
            · exact Stab.owes_bin rfl rfl rfl (fun W => Stab.run_leI _ _ _ _ false HLE.out W) rfl
            · exact trivial
            with_reducible refine Stab.steps_cons ?_ ?_ ?_
            · exact Stab.owes_pick rfl rfl rfl rfl
            · exact trivial
            exact Stab.steps_nil
          · intro W hb _
            simp only [Act.put, List.setIfInBounds_toArray, List.set_cons_succ, List.set_cons_zero]
            have HS := Lib.hid (HS.out.keep hb)
            have HGR := Lib.hid (HGR.out.keep hb)
            have HW := Lib.hid (HW.out.trans (hb.mono HW.out.size))
            clear hb
            go_wp2_with fail
            go_roundw
            case rel => exact ⟨i + 1, by go_num, hlt2, by rw [E2.out], HS.out, HGR.out, HW.out⟩
            case measure => simp [intOf]; omega
        · obtain rfl : i = mm := by omega
          have HT : Hid ((ibs (G.take i)).length = nb) := by
            show _ = _
            rw [List.take_of_length_le (by rw [HMM.out]; exact Nat.le_refl _)]
            exact HNB.out
          rw [HT.out]
          go_wp2_with fail
          go_ret
          exact ⟨rfl, HW.out⟩
theorem irow_law (v : Value) (l : List (Ins × Value)) (w : World) (hK : KTab w) (hr : InRow w v l) : Calls Tryd.prog 7 #[v] w fun e w' => e = .returned (.bool true) ∧ Below w.heap.size w w' := by
  obtain ⟨⟨A, c, hv, _⟩, _⟩ := id hr
  subst hv
  cases h1 : decide ((40 : Int) < (l.length : Int)) with
  | true => exact irow_big A _ c w h1 hK
  | false => exact irow_few A _ c l w h1 hK rfl hr
end Go.Proofs.YtmjimijolfjhmaaDoor.Ins
