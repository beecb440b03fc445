/- The document's Same: whether two instructions are the same. -/
import Derived.Test.YtdmidagcdhhlhaaDoorInsDocs
namespace Go.Proofs.YtdmidagcdhhlhaaDoor.Ins
open Go.RowKit Ints Typ
set_option maxRecDepth 100000
set_option maxHeartbeats 2000000

/-- Whole numbers: none at all (wherever), or a row of them somewhere. -/
def SlI (w : World) (v : Value) (l : List Int) : Prop :=
  ∃ A c, v = .slice A l.length c ∧ l.length ≤ c ∧ c ≤ 9223372036854775807 ∧ (l ≠ [] → ∃ g off, A = some ⟨g, off, none⟩ ∧ g < w.heap.size ∧ ∀ j, j < l.length → w.cell? ⟨g, off + j, none⟩ = some (.int .i64 (l.getD j 0)))
theorem SlI.keep {w w' : World} {v : Value} {l : List Int} (h : SlI w v l) (hb : Below w.heap.size w w') : SlI w' v l := by
  obtain ⟨A, c, h1, h2, h3, h4⟩ := h
  refine ⟨A, c, h1, h2, h3, fun h0 => ?_⟩
  obtain ⟨g, off, e, hg, hB⟩ := h4 h0
  exact ⟨g, off, e, Nat.lt_of_lt_of_le hg hb.size, fun j hj => by rw [hb.cell (p := ⟨g, off + j, none⟩) hg]; exact hB j hj⟩
theorem SlI.len_le {w : World} {v : Value} {l : List Int} (h : SlI w v l) : l.length ≤ 9223372036854775807 := by
  obtain ⟨_, _, _, h2, h3, _⟩ := h
  omega
theorem SlI.nil (w : World) : SlI w (.slice none 0 0) [] := ⟨none, 0, rfl, Nat.le_refl _, by omega, fun h => absurd rfl h⟩
theorem SlI.at_ {w : World} {A : Option Addr} {n c : Nat} {l : List Int} (h : SlI w (.slice A n c) l) {j : Nat} (hj : j < l.length) : ∃ g off, A = some ⟨g, off, none⟩ ∧ w.cell? ⟨g, off + j, none⟩ = some (.int .i64 (l.getD j 0)) := by
  obtain ⟨A', c', h1, h2, h3, h4⟩ := h
  cases h1
  obtain ⟨g, off, e, _, hB⟩ := h4 (fun h0 => by rw [h0] at hj; exact absurd hj (Nat.not_lt_zero _))
  exact ⟨g, off, e, hB j hj⟩
def iv (x : Ins) (o : Value) : Value := .agg #[.int .i64 x.op, .int .i64 x.A, .int .i64 x.B, .int .u64 x.K, o]
def smI (x y : Ins) : Bool := decide (x.op = y.op ∧ x.A = y.A ∧ x.B = y.B ∧ x.K = y.K ∧ x.L = y.L)
theorem rsame_far (x y : Ins) (P Q : Option Addr) (c d n m : Nat) (w : World) (b1 b2 b3 b4 b5 : Bool) (h1 : (x.op != y.op) = b1) (h2 : (x.A != y.A) = b2) (h3 : (x.B != y.B) = b3) (h4 : (x.K != y.K) = b4) (h5 : ((n : Int) != (m : Int)) = b5) (h : (b1 || b2 || b3 || b4 || b5) = true) :
    Calls Tryd.prog 40 #[iv x (.slice P n c), iv y (.slice Q m d)] w fun en w' => en = .returned (.bool false) ∧ Below w.heap.size w w' := by
  unfold iv
  have HW : Below w.heap.size w ((w.alloc (.cells #[.int .i64 x.op, .int .i64 x.A, .int .i64 x.B, .int .u64 x.K, .slice P n c] 50)).alloc (.cells #[.int .i64 y.op, .int .i64 y.A, .int .i64 y.B, .int .u64 y.K, .slice Q m d] 50)) := ((Below.refl _ _).alloc (Nat.le_refl _) _).alloc (by simp) _
  have HW' := Lib.hid HW
  clear HW
  cases b1 with
  | true =>
    go_enter Tryd.func40, Tryd.ntmps40
    go_wp2_with fail
    go_ret
    exact ⟨rfl, HW'.out⟩
  | false =>
    cases b2 with
    | true =>
      go_enter Tryd.func40, Tryd.ntmps40
      go_wp2_with fail
      go_ret
      exact ⟨rfl, HW'.out⟩
    | false =>
      cases b3 with
      | true =>
        go_enter Tryd.func40, Tryd.ntmps40
        go_wp2_with fail
        go_ret
        exact ⟨rfl, HW'.out⟩
      | false =>
        cases b4 with
        | true =>
          go_enter Tryd.func40, Tryd.ntmps40
          go_wp2_with fail
          go_ret
          exact ⟨rfl, HW'.out⟩
        | false =>
          cases b5 with
          | true =>
            go_enter Tryd.func40, Tryd.ntmps40
            go_wp2_with fail
            go_ret
            exact ⟨rfl, HW'.out⟩
          | false =>
            exact absurd h (by decide)
theorem drewNB (w : World) (n : Nat) {B : Nat} (_ : B ≤ w.heap.size) : Below B w (w.drewN n) := ⟨rfl, rfl, rfl, Nat.le_refl _, fun _ _ => rfl⟩
theorem take_eq {a b : List Int} {k : Nat} (h : a.take k = b.take k) (ha : k < a.length) (hb : k < b.length) (hq : (a.getD k 0 != b.getD k 0) = false) : a.take (k + 1) = b.take (k + 1) := by
  rw [List.take_add_one, List.take_add_one, h]
  congr 1
  rw [List.getElem?_eq_getElem ha, List.getElem?_eq_getElem hb]
  have : a.getD k 0 = b.getD k 0 := by simpa using hq
  rw [List.getD_eq_getElem?_getD, List.getD_eq_getElem?_getD, List.getElem?_eq_getElem ha, List.getElem?_eq_getElem hb] at this
  simpa using this
theorem of_take_ne {a b : List Int} {k : Nat} (hq : (a.getD k 0 != b.getD k 0) = true) : ¬ a = b := by
  rintro rfl
  simp at hq
theorem rsame_loop (x y : Ins) (P Q : Option Addr) (c d : Nat) (w : World) (h1 : (x.op != y.op) = false) (h2 : (x.A != y.A) = false) (h3 : (x.B != y.B) = false) (h4 : (x.K != y.K) = false) (n : Nat) (hn1 : x.L.length = n) (hn2 : y.L.length = n) (hx : SlI w (.slice P n c) x.L) (hy : SlI w (.slice Q n d) y.L) :
    Calls Tryd.prog 40 #[iv x (.slice P n c), iv y (.slice Q n d)] w fun en w' => en = .returned (.bool (decide (x.L = y.L))) ∧ Below w.heap.size w w' := by
  unfold iv
  have N1 := Lib.hid hn1
  have N2 := Lib.hid hn2
  clear hn1 hn2
  have HW : Below w.heap.size w ((w.alloc (.cells #[.int .i64 x.op, .int .i64 x.A, .int .i64 x.B, .int .u64 x.K, .slice P n c] 50)).alloc (.cells #[.int .i64 y.op, .int .i64 y.A, .int .i64 y.B, .int .u64 y.K, .slice Q n d] 50)) := ((Below.refl _ _).alloc (Nat.le_refl _) _).alloc (by simp) _
  have HX := Lib.hid (hx.keep HW)
  have HY := Lib.hid (hy.keep HW)
  have HI := Lib.hid ((InAt.at_ w w.heap.size x.op x.A x.B x.K (.slice P n c) 50 rfl).keep ((Below.refl _ _).alloc (Nat.le_refl _) (.cells #[.int .i64 y.op, .int .i64 y.A, .int .i64 y.B, .int .u64 y.K, .slice Q n d] 50)))
  have HJ := Lib.hid (InAt.at_ (w.alloc (.cells #[.int .i64 x.op, .int .i64 x.A, .int .i64 x.B, .int .u64 x.K, .slice P n c] 50)) (w.heap.size + 1) y.op y.A y.B y.K (.slice Q n d) 50 (by simp))
  have HW' := Lib.hid HW
  clear HW hx hy
  go_enter Tryd.func40, Tryd.ntmps40
  go_wp2_with fail
  go_loopw [5] (fun j' wr => ∃ k : Nat, j' = .int .i64 (k : Int) ∧ k ≤ n ∧ x.L.take k = y.L.take k ∧ SlI wr (.slice P n c) x.L ∧ SlI wr (.slice Q n d) y.L ∧ InAt wr w.heap.size x.op x.A x.B x.K (.slice P n c) ∧ InAt wr (w.heap.size + 1) y.op y.A y.B y.K (.slice Q n d) ∧ Below w.heap.size w wr) (fun j' _ => n - (intOf j').toNat)
  case atStart => exact ⟨0, rfl, Nat.zero_le _, rfl, HX.out, HY.out, HI.out, HJ.out, HW'.out⟩
  case round =>
    clear HX HY HI HJ HW'
    obtain ⟨k, rfl, hk, ht, hX, hY, hI, hJ, hW⟩ := hrel
    have HX := Lib.hid hX
    have HY := Lib.hid hY
    have HI := Lib.hid hI
    have HJ := Lib.hid hJ
    have HW := Lib.hid hW
    have HT := Lib.hid ht
    clear hX hY hI hJ hW ht
    obtain ⟨i0, ic0, ic1, ic2, ic3, ic4, if0, if1, if2, if3, if4⟩ := HI.out
    obtain ⟨o0, oc0, oc1, oc2, oc3, oc4, of0, of1, of2, of3, of4⟩ := HJ.out
    have hbig := HX.out.len_le
    rw [N1.out] at hbig
    by_cases hlt : k < n
    · obtain ⟨g1, p1, rfl, hc1⟩ := HX.out.at_ (j := k) (by rw [N1.out]; exact hlt)
      obtain ⟨g2, p2, rfl, hc2⟩ := HY.out.at_ (j := k) (by rw [N2.out]; exact hlt)
      have hin1 : (0 : Int) ≤ (k : Int) := by omega
      have hin2 : (k : Int) < (n : Int) := by omega
      obtain ⟨u, hu⟩ : ∃ u, x.L.getD k 0 = u := ⟨_, rfl⟩
      obtain ⟨v, hv⟩ : ∃ v, y.L.getD k 0 = v := ⟨_, rfl⟩
      rw [hu] at hc1
      rw [hv] at hc2
      have HU := Lib.hid hu
      have HV := Lib.hid hv
      clear hu hv
      cases hq : (u != v) with
      | true =>
        have HQ := Lib.hid (of_take_ne (a := x.L) (b := y.L) (k := k) (by rw [HU.out, HV.out]; exact hq))
        go_wp2_with fail
        go_quiet (fail)
        go_wp2_with fail
        rw [decide_eq_false HQ.out]
        exact bodyPost_ret (v := .bool false) (by simp [results, Tryd.results40, go_sem]) rfl ⟨rfl, HW.out.trans (drewNB _ _ HW.out.size)⟩
      | false =>
        have HQ := Lib.hid (take_eq HT.out (by rw [N1.out]; exact hlt) (by rw [N2.out]; exact hlt) (by rw [HU.out, HV.out]; exact hq))
        go_wp2_with fail
        go_quiet (fail)
        go_wp2_with fail
        go_roundw
        case rel => exact ⟨k + 1, by go_num, hlt, HQ.out, HX.out.keep (drewNB _ _ (Nat.le_refl _)), HY.out.keep (drewNB _ _ (Nat.le_refl _)), HI.out.keep (drewNB _ _ (Nat.le_refl _)), HJ.out.keep (drewNB _ _ (Nat.le_refl _)), HW.out.trans (drewNB _ _ HW.out.size)⟩
        case measure => simp [intOf]; omega
    · obtain rfl : k = n := by omega
      have HQ : Hid (x.L = y.L) := by
        have h1 := HT.out
        rw [List.take_of_length_le (by rw [N1.out]; exact Nat.le_refl _), List.take_of_length_le (by rw [N2.out]; exact Nat.le_refl _)] at h1
        exact h1
      go_wp2_with fail
      rw [decide_eq_true HQ.out]
      exact bodyPost_ret (v := .bool true) (by simp [results, Tryd.results40, go_sem]) rfl ⟨rfl, HW.out⟩
theorem rsame_any {x y : Ins} {o p : Value} {w : World} (hx : SlI w o x.L) (hy : SlI w p y.L) : Calls Tryd.prog 40 #[iv x o, iv y p] w fun en w' => en = .returned (.bool (smI x y)) ∧ Below w.heap.size w w' := by
  obtain ⟨P, c, ho, _⟩ := id hx
  obtain ⟨Q, d, hp, _⟩ := id hy
  subst ho
  subst hp
  unfold smI
  by_cases h : x.op = y.op ∧ x.A = y.A ∧ x.B = y.B ∧ x.K = y.K ∧ x.L.length = y.L.length
  · obtain ⟨e1, e2, e3, e4, e5⟩ := h
    rw [← e5] at hy ⊢
    refine (rsame_loop x y P Q c d w (by simpa using e1) (by simpa using e2) (by simpa using e3) (by simpa using e4) _ rfl e5.symm hx hy).mono ?_
    rintro en w' ⟨rfl, hb⟩
    refine ⟨?_, hb⟩
    by_cases hL : x.L = y.L
    · simp [e1, e2, e3, e4, hL]
    · simp [hL]
  · refine (rsame_far x y P Q c d x.L.length y.L.length w _ _ _ _ _ rfl rfl rfl rfl rfl ?_).mono ?_
    · simp only [bne_iff_ne, Bool.or_eq_true, ne_eq]
      omega
    · rintro en w' ⟨rfl, hb⟩
      refine ⟨?_, hb⟩
      rw [decide_eq_false]
      rintro ⟨e1, e2, e3, e4, e5⟩
      exact h ⟨e1, e2, e3, e4, by rw [e5]⟩
end Go.Proofs.YtdmidagcdhhlhaaDoor.Ins
