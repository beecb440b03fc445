/- SectFinds walked: what is found is the first of its ID. -/
import Derived.Test.YtkdnhhhgggmapaaSectBackWalk
import Derived.Deep.QuietTactic
import Derived.BigQuiet
namespace Go.Proofs.Ytkdnhhhgggmapaa.Sec
open Go.RowKit Utf
set_option maxRecDepth 100000
set_option maxHeartbeats 1000000
set_option linter.unusedVariables false
theorem finds_law {l : List (Sct × Value)} {A : Option Addr} {n c : Nat} {w : World} (d : Int) (hn : l.length = n) (hr : ScRow w (.slice A n c) l) :
    Calls Try.prog 7 #[.slice A n c, .int .i64 d] w fun e w' => e = .returned (.bool true) ∧ Below w.heap.size w w' := by
  have HN := Lib.hid hn
  have HR := Lib.hid hr
  clear hn hr
  go_enter Try.func7, Try.ntmps7
  go_wp2_with fail
  refine (awake_any _).mono ?_
  rintro en w1 ⟨rfl, hb1⟩
  have HB1 := Lib.hid hb1
  clear hb1
  go_wp2_with fail
  refine (fews_any HN.out (HR.out.keep HB1.out)).mono ?_
  rintro en w2 ⟨⟨b, rfl, hb⟩, rfl⟩
  cases b with
  | false =>
    clear hb
    go_wp2_with fail
    exact bodyPost_ret (v := .bool true) (by simp [results, Try.results7, go_sem]) rfl ⟨rfl, HB1.out⟩
  | true =>
    obtain ⟨hf1, hf2⟩ := few_len (hb.1 rfl) HN.out
    have HF2 := Lib.hid hf2
    clear hb hf2
    go_wp2_with fail
    refine (ours_any HN.out (HR.out.keep HB1.out) (by omega)).mono ?_
    rintro en w3 ⟨⟨P3, c3, rfl, ho3⟩, hb3⟩
    have HB3 := Lib.hid (HB1.out.trans (hb3.mono HB1.out.size))
    have HR3 := Lib.hid (ours_row HR.out ho3 HB3.out)
    clear hb3 ho3
    go_wp2_with fail
    refine (pfind_any d HN.out HR3.out (fun p hp => by have := HF2.out p hp; omega)).mono ?_
    rintro en w4 ⟨⟨g4, n4, c4, rfl, hs4, hn4⟩, hb4⟩
    have HB4 := Lib.hid (HB3.out.trans (hb4.mono HB3.out.size))
    obtain ⟨ok, hok⟩ : ∃ ok, (fnd l d).isSome = ok := ⟨_, rfl⟩
    rw [hok]
    have HOK := Lib.hid hok
    have HS4 := Lib.hid hs4
    have HN4 := Lib.hid hn4
    clear hb4 hs4 hn4 hok
    go_wp2_with fail
    go_loopw [8] (fun i' wr => ∃ i : Nat, i' = .int .i64 (i : Int) ∧ i ≤ n ∧ fnd l d = fnd (l.drop i) d ∧ wr = w4) (fun i' _ => n - (intOf i').toNat)
    case atStart => exact ⟨0, by go_num, by omega, rfl, rfl⟩
    case round =>
      obtain ⟨i, rfl, hi, hF, rfl⟩ := hrel
      have HF := Lib.hid hF
      clear hF
      by_cases hlt : i < n
      · obtain ⟨y, hy⟩ : ∃ y, l[i]? = some y := ⟨_, List.getElem?_eq_getElem (by rw [HN.out]; exact hlt)⟩
        have HWD : Hid (∀ m, Below w.heap.size w (wr.drewN m)) := Lib.hid fun m => HB4.out.trans (drewNB _ m HB4.out.size)
        obtain ⟨g, off, rfl, hC, hO⟩ := (HR.out.keep HB4.out).at_ hy
        have HFD := Lib.hid (fnd_drop (id := d) hy)
        obtain ⟨P, cd, hp, _⟩ := id hO.1
        have HO := Lib.hid hO
        obtain ⟨⟨x, B⟩, ov⟩ := y
        obtain ⟨q1, q2⟩ := hC
        simp only at q1 q2 hp HFD
        obtain ⟨k, hk⟩ : ∃ k, B.length = k := ⟨_, rfl⟩
        rw [hk] at hp
        subst hp
        have HK := Lib.hid hk
        clear hy hO hk
        have i1 : (0 : Int) ≤ (i : Int) := by omega
        have i2 : (i : Int) < (n : Int) := by omega
        have hw1 : IntKind.i64.wrap ((i : Int) + 1) = (i : Int) + 1 := IntWalk.i64_in _ (by omega)
        cases hq : (x == d) with
        | true =>
          have hv : fnd l d = some ((x, B), .slice P k cd) := by rw [HF.out, HFD.out, if_pos hq]
          have hok : ok = true := by rw [← HOK.out, hv]; rfl
          subst hok
          rw [hv] at HS4 HN4
          have e1 : ∀ m, (convert 22 9 (.slice P k cd)).run Try.prog (wr.drewN m) = .ok (.string (strOfNums B)) (wr.drewN m) := fun m => sl_txt (HO.out.1.keep (drewNB _ m (Nat.le_refl _)))
          have e2 : ∀ m, (convert 22 9 (.slice g4 n4 c4)).run Try.prog (wr.drewN m) = .ok (.string (strOfNums B)) (wr.drewN m) := fun m => sl_txt (HS4.out.keep (drewNB _ m (Nat.le_refl _)))
          generalize strOfNums B = S1 at e1 e2
          have t2 : (S1.toList == S1.toList) = true := by simp
          clear hv
          go_wp2_with fail
          go_big_quiet (fail)
          go_wp2_with fail
          exact bodyPost_ret (v := .bool true) (by simp [results, Try.results7, go_sem]) rfl ⟨rfl, HWD.out _⟩
        | false =>
          have HV : Hid (fnd l d = fnd (l.drop (i + 1)) d) := by
            show _ = _
            rw [HF.out, HFD.out, if_neg (by rw [hq]; decide)]
          go_wp2_with fail
          go_roundw
          case rel => exact ⟨i + 1, by go_num, hlt, HV.out, by first | rfl | trivial⟩
          case measure => simp [intOf]; omega
      · have hin : i = n := by omega
        subst hin
        have hv : fnd l d = none := by
          rw [HF.out, List.drop_eq_nil_of_le (by rw [HN.out]; exact Nat.le_refl _)]
          rfl
        have hok : ok = false := by rw [← HOK.out, hv]; rfl
        subst hok
        have h0 : n4 = 0 := by rw [HN4.out, hv]; rfl
        subst h0
        clear hv
        go_wp2_with fail
        exact bodyPost_ret (v := .bool true) (by simp [results, Try.results7, go_sem]) rfl ⟨rfl, HB4.out⟩
theorem finds_any {v : Value} {l : List (Sct × Value)} (d : Int) {w : World} (h : ScRow w v l) : Calls Try.prog 7 #[v, .int .i64 d] w fun e w' => e = .returned (.bool true) ∧ Below w.heap.size w w' := by
  obtain ⟨⟨A, c, rfl, _⟩, _⟩ := id h
  exact finds_law d rfl h
end Go.Proofs.Ytkdnhhhgggmapaa.Sec
