/- May a stack be? By the program: walked. -/
import Derived.Test.YtlappkflnlbfcaaStkMade
namespace Go.Proofs.Ytlappkflnlbfcaa.Stk
open Go.RowKit Row9
set_option maxRecDepth 100000
set_option maxHeartbeats 2000000
set_option linter.unusedVariables false
theorem sgo_cons_no {h : Int} {c : Ctl} {r : List Ctl} (hm : mayE c.fin = false) : sgo h (c :: r) = none := by
  rw [sgo, hm]
  rfl
theorem sgo_cons_low {h : Int} {c : Ctl} {r : List Ctl} (hl : c.ht < h) : sgo h (c :: r) = none := by
  rw [sgo, decide_eq_false (by omega), Bool.and_false]
  rfl
theorem sgo_cons_yes {h : Int} {c : Ctl} {r : List Ctl} (hm : mayE c.fin = true) (hl : ¬ c.ht < h) : sgo h (c :: r) = sgo c.ht r := by
  rw [sgo, hm, decide_eq_true (by omega)]
  rfl
theorem drop_cons {l : List CtV} {k : Nat} {p : CtV} (h : l[k]? = some p) : (l.map (·.1)).drop k = p.1 :: (l.map (·.1)).drop (k + 1) := by
  have hk := (List.getElem?_eq_some_iff.1 h).1
  have e : (l.map (·.1))[k]? = some p.1 := by rw [List.getElem?_map, h]; rfl
  obtain ⟨h1, h2⟩ := List.getElem?_eq_some_iff.1 e
  rw [List.drop_eq_getElem_cons h1, h2]
theorem sane_none {s : Stk} (h : sgo 0 s.cs = none) : sane s = false := by unfold sane; rw [h]
theorem sane_some {s : Stk} {h : Int} (e : sgo 0 s.cs = some h) : sane s = (decide (h ≤ s.vals.length) && !(s.vals.any noT)) := by unfold sane; rw [e]
theorem sane_any {a c : Value} {vals : List Int} {l : List CtV} {w : World} (ha : Row elB w a vals) (hc : Row elP w c l) :
    Calls Try.prog 25 #[.agg #[a, c]] w fun e w' => e = .returned (.bool (sane ⟨vals, l.map (·.1)⟩)) ∧ Below w.heap.size w w' := by
  have HA := Lib.hid ha
  have HC := Lib.hid hc
  have HW := Lib.hid (below_new w (.cells #[a, c] 30))
  have HS := Lib.hid (size_new w (.cells #[a, c] 30))
  obtain ⟨Pa, ca, rfl, ha2, ha3⟩ := ha.form
  obtain ⟨Pc, cc_, rfl, hc2, hc3⟩ := hc.form
  obtain ⟨nv, hnv⟩ : ∃ n, vals.length = n := ⟨_, rfl⟩
  obtain ⟨n, hn⟩ : ∃ n, l.length = n := ⟨_, rfl⟩
  have hbig : n ≤ 9223372036854775807 := by omega
  rw [hnv] at HA HW HS ⊢
  rw [hn] at HC HW HS ⊢
  have HNV := Lib.hid hnv
  have HN := Lib.hid hn
  obtain ⟨R, hR⟩ : ∃ R, sane ⟨vals, l.map (·.1)⟩ = R := ⟨_, rfl⟩
  rw [hR]
  have HR := Lib.hid hR
  clear ha hc ha2 ha3 hc2 hc3 hnv hn hR
  go_enter Try.func25, Try.ntmps25
  go_wp2_with fail
  go_loopw [3, 9] (fun h' k' wr => ∃ (k : Nat) (h : Int), h' = .int .i64 h ∧ k' = .int .i64 (k : Int) ∧ k ≤ n ∧ Below (w.alloc (.cells #[.slice Pa nv ca, .slice Pc n cc_] 30)).heap.size (w.alloc (.cells #[.slice Pa nv ca, .slice Pc n cc_] 30)) wr ∧ sgo 0 (l.map (·.1)) = sgo h ((l.map (·.1)).drop k)) (fun _ k' _ => n - (intOf k').toNat)
  case atStart => exact ⟨0, 0, rfl, by go_num, Nat.zero_le _, Below.refl _ _, rfl⟩
  case round =>
    obtain ⟨k, h, rfl, rfl, hk, hb, hs⟩ := hrel
    have HB := Lib.hid hb
    have HB0 := Lib.hid (HW.out.trans (hb.mono HW.out.size))
    have HSG := Lib.hid hs
    have HA2 := Lib.hid (HA.out.keep HB0.out)
    obtain ⟨t0, t1⟩ := box2_keep hb
    clear hs hb
    by_cases hlt : k < n
    · obtain ⟨p, hp⟩ : ∃ p, l[k]? = some p := ⟨_, List.getElem?_eq_getElem (by rw [HN.out]; exact hlt)⟩
      obtain ⟨g, off, rfl, hg, k0, k1, k2, k3, hO⟩ := ctl_at (HC.out.keep HB0.out) hp
      have hD := drop_cons hp
      rw [hD] at HSG
      obtain ⟨Pe, ce, hpe, he2, he3⟩ := hO.1.form
      obtain ⟨ne, hne⟩ : ∃ ne, p.1.fin.length = ne := ⟨_, rfl⟩
      rw [hne] at hpe
      have HM := Lib.hid (fun W (hW : Below wr.heap.size wr W) => mayend_any (hO.1.keep hW))
      rw [hpe] at k1 HM
      have i1 : (0 : Int) ≤ (k : Int) := by omega
      have i2 : (k : Int) < (n : Int) := by omega
      have hw1 : IntKind.i64.wrap ((k : Int) + 1) = (k : Int) + 1 := IntWalk.i64_in _ (by omega)
      obtain ⟨op, hop⟩ : ∃ op, p.1.op = op := ⟨_, rfl⟩
      obtain ⟨ht, hht⟩ : ∃ ht, p.1.ht = ht := ⟨_, rfl⟩
      obtain ⟨dd, hdd⟩ : ∃ dd, p.1.dead = dd := ⟨_, rfl⟩
      rw [hop] at k0
      rw [hht] at k2
      rw [hdd] at k3
      obtain ⟨qq, hqq⟩ : ∃ qq, off + k * 4 = qq := ⟨_, rfl⟩
      rw [hqq] at k0 k1 k2 k3
      have HBn := Lib.hid (below_new wr (.cells #[.int .i64 op, .slice Pe ne ce, .int .i64 ht, .bool dd] 46))
      have HHT := Lib.hid hht
      clear hp hD hO hpe he2 he3 hne hop hht hdd hg
      cases hm : mayE p.1.fin with
      | false =>
        have HQ : Hid (false = R) := by show _ = _; rw [← HR.out]; exact (sane_none (HSG.out.trans (sgo_cons_no hm))).symm
        rw [hm] at HM
        clear hm
        go_wp2_with fail
        refine (HM.out _ HBn.out).mono ?_
        rintro e w1 ⟨rfl, rfl⟩
        go_wp2_with fail
        exact bodyPost_ret (v := .bool false) (by simp [results, Try.results25, go_sem]) rfl ⟨by rw [HQ.out], HB0.out.trans (HBn.out.mono HB0.out.size)⟩
      | true =>
        rw [hm] at HM
        by_cases hlo : ht < h
        · have HQ : Hid (false = R) := by show _ = _; rw [← HR.out]; exact (sane_none (HSG.out.trans (sgo_cons_low (by rw [HHT.out]; exact hlo)))).symm
          have t5 : decide (ht < h) = true := decide_eq_true hlo
          clear hm hlo
          go_wp2_with fail
          refine (HM.out _ HBn.out).mono ?_
          rintro e w1 ⟨rfl, rfl⟩
          go_wp2_with fail
          exact bodyPost_ret (v := .bool false) (by simp [results, Try.results25, go_sem]) rfl ⟨by rw [HQ.out], HB0.out.trans (HBn.out.mono HB0.out.size)⟩
        · have HQ : Hid (sgo 0 (l.map (·.1)) = sgo ht ((l.map (·.1)).drop (k + 1))) := by show _ = _; rw [HSG.out, sgo_cons_yes hm (by rw [HHT.out]; exact hlo), HHT.out]
          have t5 : decide (ht < h) = false := decide_eq_false hlo
          clear hm hlo
          go_wp2_with fail
          refine (HM.out _ HBn.out).mono ?_
          rintro e w1 ⟨rfl, rfl⟩
          go_wp2_with fail
          go_roundw
          case rel => exact ⟨k + 1, ht, rfl, by go_num, hlt, HB.out.trans (HBn.out.mono HB.out.size), HQ.out⟩
          case measure => simp [intOf]; omega
    · obtain rfl : k = n := by omega
      have hse : sgo 0 (l.map (·.1)) = some h := by
        rw [HSG.out, List.drop_of_length_le (by rw [List.length_map, HN.out]; exact Nat.le_refl _)]
        rfl
      have hsx : sane ⟨vals, l.map (·.1)⟩ = (decide (h ≤ (vals.length : Int)) && !(vals.any noT)) := sane_some hse
      rw [HR.out, HNV.out] at hsx
      have HCo := Lib.hid (con_any HA2.out)
      have HSX := Lib.hid hsx
      clear hse hsx HA
      by_cases hle : h ≤ (nv : Int)
      · have t5 : decide (h ≤ (nv : Int)) = true := decide_eq_true hle
        have HQ : Hid (R = !(vals.any noT)) := by show _ = _; rw [HSX.out, t5, Bool.true_and]
        clear hle
        generalize vals.any noT = q at HCo HQ
        go_wp2_with fail
        refine HCo.out.mono ?_
        rintro e w1 ⟨rfl, rfl⟩
        go_wp2_with fail
        exact bodyPost_ret (v := .bool (!q)) (by simp [results, Try.results25, go_sem]) rfl ⟨by rw [HQ.out], HB0.out⟩
      · have t5 : decide (h ≤ (nv : Int)) = false := decide_eq_false hle
        have HQ : Hid (R = false) := by show _ = _; rw [HSX.out, t5, Bool.false_and]
        clear hle
        go_wp2_with fail
        exact bodyPost_ret (v := .bool false) (by simp [results, Try.results25, go_sem]) rfl ⟨by rw [HQ.out], HB0.out⟩
theorem sgo_le : ∀ (cs : List Ctl) (h h' : Int), sgo h cs = some h' → h ≤ h' ∧ (∀ c ∈ cs, h ≤ c.ht ∧ c.ht ≤ h' ∧ mayE c.fin = true) ∧ (∀ c, cs.getLast? = some c → c.ht = h')
  | [], h, h', e => by
    obtain rfl : h = h' := Option.some.inj e
    exact ⟨Int.le_refl _, (fun c hc => by cases hc), (fun c hc => by cases hc)⟩
  | c :: r, h, h', e => by
    rw [sgo] at e
    split at e
    · rename_i hc
      simp only [Bool.and_eq_true, decide_eq_true_eq] at hc
      obtain ⟨h1, h2, h3⟩ := sgo_le r c.ht h' e
      refine ⟨by omega, fun x hx => ?_, fun x hx => ?_⟩
      · rcases List.mem_cons.1 hx with rfl | hx
        · exact ⟨hc.2, h1, hc.1⟩
        · have := h2 x hx
          exact ⟨by omega, this.2⟩
      · cases r with
        | nil =>
          obtain rfl : c = x := by simpa using hx
          exact Option.some.inj e
        | cons y r =>
          rw [List.getLast?_cons_cons] at hx
          exact h3 x hx
    · cases e
theorem sane_facts {s : Stk} (h : sane s = true) : (∀ c ∈ s.cs, 0 ≤ c.ht ∧ c.ht ≤ s.vals.length ∧ mayE c.fin = true) ∧ s.vals.any noT = false := by
  unfold sane at h
  split at h
  · cases h
  · rename_i h' e
    simp only [Bool.and_eq_true, decide_eq_true_eq, Bool.not_eq_true'] at h
    obtain ⟨h1, h2, h3⟩ := sgo_le _ _ _ e
    exact ⟨fun c hc => by have := h2 c hc; exact ⟨by omega, by omega, this.2.2⟩, h.2⟩
theorem mayE_len {l : List Int} (h : mayE l = true) : l.length ≤ 1 := by
  match l, h with
  | [], _ => simp
  | [x], _ => simp
  | x :: y :: r, h => cases h
end Go.Proofs.Ytlappkflnlbfcaa.Stk
