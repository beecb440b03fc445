/- Are sections the same, by the document: walked. -/
import Derived.Test.YtkdnhhhgggmapaaSecFind
import Derived.Deep.QuietTactic
import Derived.BigQuiet
namespace Go.Proofs.Ytkdnhhhgggmapaa.Sec
open Go.RowKit Utf
set_option maxRecDepth 100000
set_option maxHeartbeats 2000000
set_option linter.unusedVariables false
def scL (l : List (Sct × Value)) : List Sct := l.map (·.1)
theorem scL_len (l : List (Sct × Value)) : (scL l).length = l.length := by simp [scL]
theorem scL_get {l : List (Sct × Value)} {j : Nat} {p : Sct × Value} (h : l[j]? = some p) : (scL l)[j]? = some p.1 := by
  unfold scL
  rw [List.getElem?_map, h]
  rfl
theorem drewNB (w : World) (n : Nat) {B : Nat} (_ : B ≤ w.heap.size) : Below B w (w.drewN n) := ⟨rfl, rfl, rfl, Nat.le_refl _, fun _ _ => rfl⟩
/-- The same: told so. (That what differs is told so is not said here.) -/
theorem rsames_yes {a b : List (Sct × Value)} {o p : Value} {w : World} (hbig : a.length ≤ 80000) (ha : ScRow w o a) (hb : ScRow w p b) (he : scL a = scL b) : Calls Try.prog 20 #[o, p] w fun e w' => e = .returned (.bool true) ∧ Below w.heap.size w w' := by
  obtain ⟨⟨A, c, rfl, _⟩, _⟩ := id ha
  obtain ⟨⟨B, d, rfl, _⟩, _⟩ := id hb
  have hlen : b.length = a.length := by have := congrArg List.length he; rw [scL_len, scL_len] at this; exact this.symm
  rw [hlen] at hb ⊢
  obtain ⟨n, hn⟩ : ∃ n, a.length = n := ⟨_, rfl⟩
  rw [hn] at ha hb hbig ⊢
  have HN := Lib.hid hn
  have HM := Lib.hid (hlen.trans hn)
  have HA := Lib.hid ha
  have HB := Lib.hid hb
  have HE := Lib.hid he
  clear hn hlen ha hb he
  go_enter Try.func20, Try.ntmps20
  go_wp2_with fail
  go_loopw [5] (fun j' wr => ∃ k : Nat, j' = .int .i64 (k : Int) ∧ k ≤ n ∧ Below w.heap.size w wr) (fun j' _ => n - (intOf j').toNat)
  case atStart => exact ⟨0, by go_num, Nat.zero_le _, Below.refl _ _⟩
  case round =>
    obtain ⟨k, rfl, hk, hW⟩ := hrel
    have HW := Lib.hid hW
    clear hW
    by_cases hlt : k < n
    · obtain ⟨x, hx⟩ : ∃ y, a[k]? = some y := ⟨_, List.getElem?_eq_getElem (by rw [HN.out]; exact hlt)⟩
      obtain ⟨y, hy⟩ : ∃ y, b[k]? = some y := ⟨_, List.getElem?_eq_getElem (by rw [HM.out]; exact hlt)⟩
      have hxy : x.1 = y.1 := by
        have h1 := scL_get hx
        rw [HE.out, scL_get hy] at h1
        exact (Option.some.inj h1).symm
      obtain ⟨g1, f1, rfl, hC1, hO1⟩ := (HA.out.keep HW.out).at_ hx
      obtain ⟨g2, f2, rfl, hC2, hO2⟩ := (HB.out.keep HW.out).at_ hy
      obtain ⟨P1, c1, hp1, _⟩ := id hO1.1
      obtain ⟨P2, c2, hp2, _⟩ := id hO2.1
      have HO1 := Lib.hid hO1
      have HO2 := Lib.hid hO2
      obtain ⟨⟨x, X⟩, ox⟩ := x
      obtain ⟨⟨y, Y⟩, oy⟩ := y
      simp only [Prod.mk.injEq] at hp1 hp2 hxy
      obtain ⟨rfl, rfl⟩ := hxy
      obtain ⟨n1, hn1⟩ : ∃ m, X.length = m := ⟨_, rfl⟩
      rw [hn1] at hp1 hp2
      subst hp1 hp2
      clear hx hy hn1 hO1 hO2
      obtain ⟨q1, q2⟩ := hC1
      obtain ⟨r1, r2⟩ := hC2
      simp only at q1 q2 r1 r2
      have hin1 : (0 : Int) ≤ (k : Int) := by omega
      have hin2 : (k : Int) < (n : Int) := by omega
      have hw1 : IntKind.i64.wrap ((k : Int) + 1) = (k : Int) + 1 := IntWalk.i64_in _ (by omega)
      have e1 : ∀ m, (convert 22 9 (.slice P1 n1 c1)).run Try.prog (wr.drewN m) = .ok (.string (strOfNums X)) (wr.drewN m) := fun m => sl_txt (HO1.out.1.keep (drewNB _ m (Nat.le_refl _)))
      have e2 : ∀ m, (convert 22 9 (.slice P2 n1 c2)).run Try.prog (wr.drewN m) = .ok (.string (strOfNums X)) (wr.drewN m) := fun m => sl_txt (HO2.out.1.keep (drewNB _ m (Nat.le_refl _)))
      generalize strOfNums X = S1 at e1 e2
      have t2 : (S1.toList == S1.toList) = true := by simp
      have t3 : (x != x) = false := by simp
      go_wp2_with fail
      go_big_quiet (fail)
      go_wp2_with fail
      go_roundw
      case rel => exact ⟨k + 1, by go_num, hlt, HW.out.trans (drewNB _ _ HW.out.size)⟩
      case measure => simp [intOf]; omega
    · have hkn : k = n := by omega
      subst hkn
      go_wp2_with fail
      exact bodyPost_ret (v := .bool true) (by simp [results, Try.results20, go_sem]) rfl ⟨rfl, HW.out⟩
end Go.Proofs.Ytkdnhhhgggmapaa.Sec
