/- BodFew, BodSame, BodApp, BodReadM, BodNst, BodTurn. -/
import Derived.Test.YtffegkjlgeblbaaGreatDoorPkBodNest
import Derived.Test.YtffegkjlgeblbaaGreatDoorPkInsStab
import Derived.Test.YtffegkjlgeblbaaGreatDoorPkInsPSame
import Derived.Test.YtffegkjlgeblbaaGreatDoorPkInsPTabs
import Derived.WalkSmall
import Derived.Test.YtffegkjlgeblbaaGreatDoorPkBodTake
import Derived.Deep.QuietTactic
import Derived.BigQuiet
import Derived.RegionTactic
import Derived.ChangeAlike
section
/- Few instructions, by the document, walked. -/
namespace Go.Proofs.YtffegkjlgeblbaaGreatDoor.Bod
open Go.RowKit Ints Typ Ins
set_option maxRecDepth 100000
set_option maxHeartbeats 1000000
set_option linter.unusedVariables false

def FewB (l : List (Ins × Value)) (m : Int) : Prop := (l.length : Int) ≤ m ∧ ∀ p ∈ l, p.1.L.length ≤ 70
theorem few_any {l : List (Ins × Value)} {A : Option Addr} {n c : Nat} {w : World} (m : Int) (hn : l.length = n) (hr : InRow w (.slice A n c) l) :
    Calls Tryz.prog 92 #[.slice A n c, .int .i64 m] w fun e w' => (∃ b, e = .returned (.bool b) ∧ (b = true ↔ FewB l m)) ∧ w' = w := by
  have hbig : n ≤ 9223372036854775807 := by
    obtain ⟨⟨A, c', h1, h2, h3, _⟩, _⟩ := id hr
    injection h1 with _ h4 h5
    omega
  have HR := Lib.hid hr
  have HN := Lib.hid hn
  clear hr hn
  by_cases hm : m < (n : Int)
  · have t1 : decide (m < (n : Int)) = true := decide_eq_true hm
    have HNO : Hid (¬ FewB l m) := fun h => by have := h.1; rw [HN.out] at this; omega
    clear hm
    go_enter Tryz.func92, Tryz.ntmps92
    go_wp2_with fail
    exact bodyPost_ret (v := .bool false) (by simp [results, Tryz.results92, go_sem]) rfl ⟨by first | exact ⟨false, rfl, by simpa using HNO.out⟩ | exact .inl ⟨rfl, HNO.out⟩, rfl⟩
  · have t1 : decide (m < (n : Int)) = false := decide_eq_false hm
    have HM : Hid ((n : Int) ≤ m) := by show _ ≤ _; omega
    clear hm
    go_enter Tryz.func92, Tryz.ntmps92
    go_wp2_with fail
    clear t1
    go_loop [5] (fun i' => ∃ i : Nat, i' = .int .i64 (i : Int) ∧ i ≤ n ∧ ∀ q, q < i → ∀ p, l[q]? = some p → p.1.L.length ≤ 70) (fun i' => n - (intOf i').toNat)
    case atStart => exact ⟨0, by go_num, by omega, fun q hq => absurd hq (by omega)⟩
    case round =>
      obtain ⟨i, rfl, hi, hall⟩ := hrel
      have HALL := Lib.hid hall
      clear hall
      by_cases hlt : i < n
      · obtain ⟨y, hy⟩ : ∃ y, l[i]? = some y := ⟨_, List.getElem?_eq_getElem (by rw [HN.out]; exact hlt)⟩
        obtain ⟨g, off, hA, hC, hOk⟩ := HR.out.at_ hy
        subst hA
        obtain ⟨PL, cL, hpo, _⟩ := id hOk.1
        have HY := Lib.hid hy
        obtain ⟨x, ov⟩ := y
        simp only at hpo
        obtain ⟨nL, hnL⟩ : ∃ nL, x.L.length = nL := ⟨_, rfl⟩
        have HNL := Lib.hid hnL
        rw [hnL] at hpo
        subst hpo
        obtain ⟨q1, q2, q3, q4, q5⟩ := hC
        clear hOk hy hnL q1 q2 q3 q4
        simp only at q5
        have hin1 : (0 : Int) ≤ (i : Int) := by omega
        have hin2 : (i : Int) < (n : Int) := by omega
        have hw1 : IntKind.i64.wrap ((i : Int) + 1) = (i : Int) + 1 := IntWalk.i64_in _ (by omega)
        by_cases h70 : nL ≤ 70
        · have t2 : decide ((70 : Int) < (nL : Int)) = false := decide_eq_false (by omega)
          have HNX : Hid (∀ q, q < i + 1 → ∀ p, l[q]? = some p → p.1.L.length ≤ 70) := fun q hq p hp => by
            by_cases e : q = i
            · subst e
              have e2 := Option.some.inj (HY.out.symm.trans hp)
              subst e2
              show x.L.length ≤ 70
              rw [HNL.out]
              exact h70
            · exact HALL.out q (by omega) p hp
          clear h70
          go_wp2_with fail
          go_round
          case rel => exact ⟨i + 1, by go_num, hlt, HNX.out⟩
          case measure => simp [intOf]; omega
        · have t2 : decide ((70 : Int) < (nL : Int)) = true := decide_eq_true (by omega)
          have HNO : Hid (¬ FewB l m) := fun h => by
            have := h.2 _ (List.mem_of_getElem? HY.out)
            simp only at this
            rw [HNL.out] at this
            exact h70 this
          clear h70
          go_wp2_with fail
          exact bodyPost_ret (v := .bool false) (by simp [results, Tryz.results92, go_sem]) rfl ⟨by first | exact ⟨false, rfl, by simpa using HNO.out⟩ | exact .inl ⟨rfl, HNO.out⟩, rfl⟩
      · obtain rfl : i = n := by omega
        have HYES : Hid (FewB l m) := ⟨by rw [HN.out]; exact HM.out, fun p hp => by
          obtain ⟨q, hq⟩ := List.getElem?_of_mem hp
          exact HALL.out q (by have := (List.getElem?_eq_some_iff.1 hq).1; rwa [HN.out] at this) p hq⟩
        clear hlt
        go_wp2_with fail
        exact bodyPost_ret (v := .bool true) (by simp [results, Tryz.results92, go_sem]) rfl ⟨by first | exact ⟨true, rfl, by simpa using HYES.out⟩ | exact .inr ⟨rfl, HYES.out⟩, rfl⟩
end Go.Proofs.YtffegkjlgeblbaaGreatDoor.Bod
end

section
/- Instructions the same, by the document, walked. -/
namespace Go.Proofs.YtffegkjlgeblbaaGreatDoor.Bod
open Go.RowKit Ints Typ Ins
set_option maxRecDepth 100000
set_option maxHeartbeats 1000000
set_option linter.unusedVariables false

def insL (l : List (Ins × Value)) : List Ins := l.map (·.1)
theorem insL_len (l : List (Ins × Value)) : (insL l).length = l.length := by simp [insL]
theorem insL_get {l : List (Ins × Value)} {j : Nat} {p : Ins × Value} (h : l[j]? = some p) : (insL l)[j]? = some p.1 := by
  unfold insL
  rw [List.getElem?_map, h]
  rfl
theorem smI_eq {x y : Ins} : smI x y = true ↔ x = y := by
  unfold smI
  rw [decide_eq_true_eq]
  constructor
  · rintro ⟨h1, h2, h3, h4, h5⟩
    cases x; cases y
    simp only at h1 h2 h3 h4 h5
    subst h1 h2 h3 h4 h5
    rfl
  · rintro rfl
    exact ⟨rfl, rfl, rfl, rfl, rfl⟩
end Go.Proofs.YtffegkjlgeblbaaGreatDoor.Bod
end

section
/- 'append' on whole numbers of the call's own: where the row lies afterwards. -/
namespace Go.Proofs.YtffegkjlgeblbaaGreatDoor.Bod
open Go.RowKit Ints Typ Ins
set_option maxRecDepth 100000
set_option maxHeartbeats 1000000
set_option linter.unusedVariables false

theorem run_oneI (W : World) (ty : TypeId) (B : Nat) (v : Value) (done : List Int) (y : Int) (hown : OwnI W B v done) (A : Addr) (hA : W.cell? (A.add 0) = some (.int .i64 y)) (hlen : done.length ≤ 10000000) (hB : B ≤ W.heap.size) :
    ∃ v' w', (Builtin.append_ #[26, 26] ty #[v, .slice (some A) 1 1]).run Tryz.prog W = .ok v' w' ∧ OwnI w' B v' (done ++ [y]) ∧ W.grownBy w' v.ownBlock ∧ (v'.ownBlock = v.ownBlock ∨ ∃ g, v'.ownBlock = some g ∧ W.heap.size ≤ g) := by
  obtain ⟨i0, hi, hz0, hz1, hz2⟩ := info_parts int_info
  have hnews : ∀ j u, [Value.int .i64 y][j]? = some u → W.cell? (A.add j) = some u := by
    intro j u hu
    cases j with
    | zero => simp at hu; subst hu; exact hA
    | succ j => simp at hu
  have h1 : ∀ u ∈ [Value.int .i64 y], u.oneCell' = true := by intro u hu; simp at hu; subst hu; rfl
  obtain ⟨v', w', hr, h2, h3, _⟩ := run_append_own (P := Tryz.prog) W B 26 ty 3 i0 (.int .i64 0) 1 8 Tryz.underlying26 hi hz0 hz1 hz2 rfl (by decide) v _ _ hown A 1 1 [.int .i64 y] rfl hnews h1 (by simp only [maxLen]; omega) (by omega) hB
  refine ⟨v', w', hr, ?_, h3, ?_⟩
  · have : w'.ownsRow B 3 1 v' (done ++ [y]).length (vi (done ++ [y])) := by simpa [vi] using h2
    exact this
  · rcases hown.2 with ⟨rfl, hn⟩ | ⟨g, cap, cur, rfl, hbg, hg, hnc, hcm, hcs, htake⟩
    · right
      have hd : done = [] := List.length_eq_zero_iff.1 hn
      subst hd
      obtain ⟨v2, w2, hr2, k2, _, _⟩ := run_append_own (P := Tryz.prog) W W.heap.size 26 ty 3 i0 (.int .i64 0) 1 8 Tryz.underlying26 hi hz0 hz1 hz2 rfl (by decide) (.slice none 0 0) 0 [] (World.ownsRow_nil W W.heap.size 3 1) A 1 1 [.int .i64 y] rfl hnews h1 (by simp only [maxLen]; omega) (by omega) (Nat.le_refl _)
      rw [hr] at hr2
      injection hr2 with e1 e2
      subst e1
      rcases k2.2 with ⟨_, h0⟩ | ⟨g, cap, cur, hv, hbg, _⟩
      · exact absurd h0 (by decide)
      · exact ⟨g, by rw [hv]; rfl, hbg⟩
    · by_cases hroom : done.length + 1 ≤ cap
      · left
        obtain ⟨w2, hr2, _⟩ := run_append_fits (P := Tryz.prog) W B 26 ty 3 i0 1 Tryz.underlying26 hi hz1 g done.length cap (vi done) hown A 1 1 [.int .i64 y] rfl hnews h1 hroom
        rw [hr] at hr2
        injection hr2 with e1 e2
        rw [e1]
        rfl
      · right
        have hr2 := run_append_grow (P := Tryz.prog) W 26 ty 3 i0 (.int .i64 0) Tryz.underlying26 hi hz0 ⟨g, 0, none⟩ done.length cap (vi done) (by rw [hz1]; simp [vi]) (World.ownsRow.cells hown (g := g) rfl) A 1 1 [.int .i64 y] (by rw [hz1]; rfl) hnews (by omega) (by omega) (growslice_fits (by omega) (by rw [hz2]; omega))
        rw [hr] at hr2
        injection hr2 with e1 e2
        exact ⟨W.heap.size, by rw [e1]; rfl, Nat.le_refl _⟩
end Go.Proofs.YtffegkjlgeblbaaGreatDoor.Bod
end

section
/- The document's Read of a body, over instructions read one by one; and rows kept beside rows. -/
namespace Go.Proofs.YtffegkjlgeblbaaGreatDoor.Bod
open Go.RowKit Ints Typ Ins
set_option maxRecDepth 100000
set_option maxHeartbeats 1000000
set_option linter.unusedVariables false

def kOut (op : Int) (K : List Int) : List Int := if op = 5 ∨ op = 11 then K.tail else K
def kIn (op : Int) (K : List Int) : List Int := if opn op = true ∨ op = 5 then op :: kOut op K else kOut op K
def drd (b : List Int) : Nat → Int → List Ins → List Int → List Ins × Int × Int
  | 0, _, _, _ => ([], 0, 4)
  | f + 1, a, L, K =>
    if (rdo b a).2.2 ≠ 0 then ([], 0, (rdo b a).2.2)
    else if (rdo b a).1.op = 11 ∧ K = [] then (L, (rdo b a).2.1, 0)
    else if (rdo b a).1.op = 5 ∧ K.headD 0 ≠ 4 then ([], 0, 3)
    else if 4096 ≤ L.length ∨ 32 < (kOut (rdo b a).1.op K).length then ([], 0, 4)
    else drd b f (rdo b a).2.1 (L ++ [(rdo b a).1]) (kIn (rdo b a).1.op K)
end Go.Proofs.YtffegkjlgeblbaaGreatDoor.Bod
end

section
/- The program's nest, in memory: three rows of the call's own, and the block that holds them. -/
namespace Go.Proofs.YtffegkjlgeblbaaGreatDoor.Bod
open Go.RowKit Ints Typ Ins
set_option maxRecDepth 100000
set_option maxHeartbeats 1000000
set_option linter.unusedVariables false

def OwnP (e : TypeId) (w : World) (B : Nat) (v : Value) (l : List (Int × Int)) : Prop := w.ownsRow B e 2 v l.length (l.flatMap c2)
theorem ownP_nil (e : TypeId) (w : World) (B : Nat) : OwnP e w B (.slice none 0 0) [] := ⟨rfl, .inl ⟨rfl, rfl⟩⟩
def Chg (w w' : World) (r : Option Nat) : Prop := ∀ k, k < w.heap.size → some k ≠ r → w'.heap[k]? = w.heap[k]?
theorem own_stay {w w' : World} {B e s n : Nat} {v : Value} {xs : List Value} (h : w.ownsRow B e s v n xs) (hk : ∀ k, v.ownBlock = some k → w'.heap[k]? = w.heap[k]?) : w'.ownsRow B e s v n xs := by
  obtain ⟨h1, h2⟩ := h
  refine ⟨h1, ?_⟩
  rcases h2 with h2 | ⟨g, cap, cur, hv, hB, hc, hr⟩
  · exact .inl h2
  · exact .inr ⟨g, cap, cur, hv, hB, by rw [hk g (by rw [hv]; rfl)]; exact hc, hr⟩
theorem own_type {w : World} {B e s n : Nat} {v : Value} {xs : List Value} (h : w.ownsRow B e s v n xs) {k : Nat} (hk : v.ownBlock = some k) : ∃ cur, w.heap[k]? = some (.cells cur e (0, 0)) := by
  obtain ⟨_, ⟨h2, _⟩ | ⟨g, cap, cur, hv, hB, hc, _⟩⟩ := h
  · rw [h2] at hk; cases hk
  · rw [hv] at hk
    obtain rfl : g = k := by simpa [Value.ownBlock] using hk
    exact ⟨cur, hc⟩
theorem own_ne {w : World} {B e s n B' e' s' n' : Nat} {v v' : Value} {xs xs' : List Value} (h : w.ownsRow B e s v n xs) (h' : w.ownsRow B' e' s' v' n' xs') (hne : e ≠ e') {k : Nat} (hk : v.ownBlock = some k) : some k ≠ v'.ownBlock := by
  intro e1
  obtain ⟨cur, h1⟩ := own_type h hk
  obtain ⟨cur', h2⟩ := own_type h' e1.symm
  rw [h1] at h2
  simp only [Option.some.injEq, Obj.cells.injEq] at h2
  exact hne h2.2.1
theorem own_beside {w w' : World} {B e s n B' e' s' n' : Nat} {v v' : Value} {xs xs' : List Value} (h : w.ownsRow B e s v n xs) (h' : w.ownsRow B' e' s' v' n' xs') (hne : e ≠ e') (hk : Chg w w' v'.ownBlock) : w'.ownsRow B e s v n xs :=
  own_stay h fun k hkk => hk k (World.ownsRow.lt h k hkk).2 (own_ne h h' hne hkk)
theorem own_low {w : World} {B B' e s n : Nat} {v : Value} {xs : List Value} (h : w.ownsRow B e s v n xs) (hB : B' ≤ B) : w.ownsRow B' e s v n xs := by
  obtain ⟨h1, h2⟩ := h
  refine ⟨h1, ?_⟩
  rcases h2 with h2 | ⟨g, cap, cur, hv, hB, hr⟩
  · exact .inl h2
  · exact .inr ⟨g, cap, cur, hv, by omega, hr⟩
theorem OwnP.form {e : TypeId} {w : World} {B : Nat} {v : Value} {l : List (Int × Int)} (h : OwnP e w B v l) : ∃ P c, v = .slice P l.length c := by
  obtain ⟨_, ⟨hv, hl⟩ | ⟨g, cap, cur, hv, _⟩⟩ := h
  · exact ⟨none, 0, by rw [hv, hl]⟩
  · exact ⟨_, _, hv⟩
theorem OwnP.shape {e : TypeId} {w : World} {B : Nat} {v : Value} {l : List (Int × Int)} (h : OwnP e w B v l) {j : Nat} (hj : j < l.length) : ∃ g c, v = .slice (some ⟨g, 0, none⟩) l.length c ∧ l.length ≤ c := by
  obtain ⟨_, ⟨hv, hl⟩ | ⟨g, cap, cur, hv, _, _, hle, _⟩⟩ := h
  · omega
  · exact ⟨g, cap, hv, hle⟩
theorem OwnP.cells {e : TypeId} {w : World} {B g n c : Nat} {l : List (Int × Int)} (h : OwnP e w B (.slice (some ⟨g, 0, none⟩) n c) l) {j : Nat} (hj : j < l.length) : w.cell? ⟨g, j * 2, none⟩ = some (.int .i64 (l.getD j (0, 0)).1) ∧ w.cell? ⟨g, j * 2 + 1, none⟩ = some (.int .i64 (l.getD j (0, 0)).2) := by
  obtain ⟨p, hp⟩ : ∃ p, l[j]? = some p := ⟨_, List.getElem?_eq_getElem hj⟩
  have key := World.ownsRow.cells h (g := g) rfl
  have a := flat2 l j 0 p hp (by decide)
  have b := flat2 l j 1 p hp (by decide)
  rw [Nat.add_zero] at a
  rw [List.getD_eq_getElem?_getD, hp]
  have k0 := key (j * 2) (.int .i64 p.1) (by rw [a]; rfl)
  have k1 := key (j * 2 + 1) (.int .i64 p.2) (by rw [b]; rfl)
  rw [Typ.add_plain, Nat.zero_add] at k0 k1
  exact ⟨k0, k1⟩
theorem OwnP.free {e : TypeId} {w : World} {B g c : Nat} {l : List (Int × Int)} (h : OwnP e w B (.slice (some ⟨g, 0, none⟩) l.length c) l) (j : Nat) : w.frozen? ⟨g, j, none⟩ = false := World.ownsRow.frozenAt h j
theorem set_here {α : Type} {l : List α} {i : Nat} {x : α} (h : l[i]? = some x) : l.set i x = l := by
  apply List.ext_getElem?
  intro j
  rw [List.getElem?_set]
  by_cases e : i = j
  · subst e
    rw [if_pos rfl, if_pos (List.getElem?_eq_some_iff.1 h).1, h]
  · rw [if_neg e]
theorem pair_set1 {l : List (Int × Int)} {j : Nat} (hj : j < l.length) (a : Int) : (l.flatMap c2).set (j * 2) (.int .i64 a) = (l.set j (a, (l.getD j (0, 0)).2)).flatMap c2 := by
  have h := flat2_set l j a (l.getD j (0, 0)).2
  rw [if_pos hj] at h
  rw [← h]
  have b := flat2 l j 1 _ (List.getElem?_eq_getElem hj) (by decide)
  have e : (l.getD j (0, 0)) = l[j] := by rw [List.getD_eq_getElem?_getD, List.getElem?_eq_getElem hj]; rfl
  refine (set_here ?_).symm
  rw [List.getElem?_set_ne (by omega), b, e]
  rfl
theorem pair_set2 {l : List (Int × Int)} {j : Nat} (hj : j < l.length) (b : Int) : (l.flatMap c2).set (j * 2 + 1) (.int .i64 b) = (l.set j ((l.getD j (0, 0)).1, b)).flatMap c2 := by
  have h := flat2_set l j (l.getD j (0, 0)).1 b
  rw [if_pos hj] at h
  rw [← h]
  have e : (l.getD j (0, 0)) = l[j] := by rw [List.getD_eq_getElem?_getD, List.getElem?_eq_getElem hj]; rfl
  have a := flat2 l j 0 _ (List.getElem?_eq_getElem hj) (by decide)
  rw [Nat.add_zero] at a
  congr 1
  refine (set_here ?_).symm
  rw [a, e]
  rfl
theorem OwnP.set1 {e : TypeId} {w : World} {B g c : Nat} {l : List (Int × Int)} (h : OwnP e w B (.slice (some ⟨g, 0, none⟩) l.length c) l) {j : Nat} (hj : j < l.length) (a : Int) : OwnP e (w.setCell ⟨g, j * 2, none⟩ (.int .i64 a)) B (.slice (some ⟨g, 0, none⟩) l.length c) (l.set j (a, (l.getD j (0, 0)).2)) := by
  have h1 := (World.ownsRow.stored h (j * 2) (.int .i64 a)).1
  unfold OwnP
  rw [List.length_set, ← pair_set1 hj]
  exact h1
theorem OwnP.set2 {e : TypeId} {w : World} {B g c : Nat} {l : List (Int × Int)} (h : OwnP e w B (.slice (some ⟨g, 0, none⟩) l.length c) l) {j : Nat} (hj : j < l.length) (b : Int) : OwnP e (w.setCell ⟨g, j * 2 + 1, none⟩ (.int .i64 b)) B (.slice (some ⟨g, 0, none⟩) l.length c) (l.set j ((l.getD j (0, 0)).1, b)) := by
  have h1 := (World.ownsRow.stored h (j * 2 + 1) (.int .i64 b)).1
  unfold OwnP
  rw [List.length_set, ← pair_set2 hj]
  exact h1
theorem flat2_len : ∀ l : List (Int × Int), (l.flatMap c2).length = l.length * 2
  | [] => rfl
  | a :: l => by rw [List.flatMap_cons, List.length_append, flat2_len l, List.length_cons]; simp [c2]; omega
theorem OwnP.pop {e : TypeId} {w : World} {B g cap : Nat} {l : List (Int × Int)} {x : Int × Int} (h : OwnP e w B (.slice (some ⟨g, 0, none⟩) (l ++ [x]).length cap) (l ++ [x])) : OwnP e w B (.slice (some ⟨g, 0, none⟩) l.length cap) l := by
  obtain ⟨h1, ⟨hv, hl⟩ | ⟨g', cap', cur, hv, hB, hc, hle, hm, hsz, ht⟩⟩ := h
  · simp at hl
  · injection hv with e1 e2 e3
    subst e3
    rw [List.length_append] at hle ht
    refine ⟨flat2_len l, .inr ⟨g', cap, cur, by rw [e1], hB, hc, by simp at hle; omega, hm, hsz, ?_⟩⟩
    have hlen := flat2_len l
    have := congrArg (List.take (l.length * 2)) ht
    rw [List.take_take, List.flatMap_append, List.take_append_of_le_length (by omega), ← hlen, List.take_length, hlen, show min (l.length * 2) ((l.length + [x].length) * 2) = l.length * 2 from by simp] at this
    exact this
theorem pmatch_info : (Tryz.prog.info? 282).map (fun i => (i.zero, i.size, i.bytes)) = some (some (.agg #[.int .i64 0, .int .i64 0]), 2, 16) := by kernel_rfl
theorem pbegun_info : (Tryz.prog.info? 284).map (fun i => (i.zero, i.size, i.bytes)) = some (some (.agg #[.int .i64 0, .int .i64 0]), 2, 16) := by kernel_rfl
theorem new2 (e : TypeId) (w : World) (p : Int × Int) : ∀ j u, (c2 p)[j]? = some u → (w.alloc (.cells #[.int .i64 p.1, .int .i64 p.2] e)).cell? ((⟨w.heap.size, 0, none⟩ : Addr).add j) = some u := by
  intro j u hu
  rw [Typ.add_plain]
  rcases j with _ | _ | j
  · simp [c2] at hu; subst hu; simp
  · simp [c2] at hu; subst hu; simp
  · simp [c2] at hu
theorem wp_oneP {ops : Array Oper} {rest : List Oper} {o : Oper} {a : Act} {Q : Exit → Act → World → Prop} (e t : TypeId) (ht : Tryz.prog.underlying t = some (.slice e)) (hi : (Tryz.prog.info? e).map (fun i => (i.zero, i.size, i.bytes)) = some (some (.agg #[.int .i64 0, .int .i64 0]), 2, 16)) (w : World) (hgd : o.guard = none) (s x : Operand)
    (ho : o.op = .call { callee := .builtin .append, args := #[s, x], argTypes := #[t, t] }) (B : Nat) (v : Value) (done : List (Int × Int)) (p : Int × Int) (hs : a.eval s = v) (hown : OwnP e w B v done)
    (hx : a.eval x = .slice (some ⟨w.heap.size, 0, none⟩) 1 1) (hlen : done.length ≤ 1000000) (hB : B ≤ w.heap.size)
    (h : ∀ v' w', OwnP e w' B v' (done ++ [p]) → Below B w w' → Chg w w' v.ownBlock → wpList Tryz.prog ops Q rest (a.put o.dst v') w') : wpList Tryz.prog ops Q (o :: rest) a (w.alloc (.cells #[.int .i64 p.1, .int .i64 p.2] e)) := by
  obtain ⟨i0, hi, hz0, hz1, hz2⟩ := info_parts hi
  refine wpList_append_own _ hgd s x t ho B e i0 (.agg #[.int .i64 0, .int .i64 0]) 2 16 ht hi hz0 hz1 hz2 rfl (by decide) v _ _ hs (World.ownsRow.alloc hown _) ⟨w.heap.size, 0, none⟩ 1 1 (c2 p) hx rfl (new2 e w p) ?_ (by simp only [maxLen]; omega) (by omega) (by simp; omega) ?_
  · intro u hu
    simp only [c2, List.mem_cons, List.not_mem_nil, or_false] at hu
    rcases hu with rfl | rfl <;> rfl
  · intro v' w' ho' hg hn
    refine h v' w' ?_ (((Below.refl _ _).alloc hB _).grown hg (by simp; omega) (fun k hk => (World.ownsRow.lt hown k hk).1)) (fun k hk hne => (hg.block k (by simp; omega) hne).trans (((Below.refl w.heap.size w).alloc (Nat.le_refl _) _).block k hk))
    have ho2 : w'.ownsRow B e 2 v' (done ++ [p]).length ((done ++ [p]).flatMap c2) := by
      rw [List.flatMap_append, List.length_append]
      simpa using ho'
    exact ho2
def prs (l : List (Int × Nat)) : List (Int × Int) := l.map fun x => (x.1, (x.2 : Int))
theorem prs_len (l : List (Int × Nat)) : (prs l).length = l.length := by simp [prs]
structure NAt (w : World) (B g : Nat) (vM vD vS : Value) (n : Nst) : Prop where
  base : B ≤ g
  cell : w.heap[g]? = some (.cells #[vM, vD, vS] 258 (0, 0))
  m : OwnP 282 w B vM n.M
  d : OwnI w B vD n.D
  s : OwnP 284 w B vS (prs n.S)
theorem NAt.lt {w : World} {B g : Nat} {vM vD vS : Value} {n : Nst} (h : NAt w B g vM vD vS n) : g < w.heap.size := (Array.getElem?_eq_some_iff.1 h.cell).1
theorem NAt.keep {w w' : World} {B g : Nat} {vM vD vS : Value} {n : Nst} (h : NAt w B g vM vD vS n) (hb : Below w.heap.size w w') : NAt w' B g vM vD vS n :=
  ⟨h.base, by rw [hb.block g h.lt]; exact h.cell, own_keep h.m hb, own_keep h.d hb, own_keep h.s hb⟩
theorem cells_at {w : World} {g : Nat} {cur : Array Value} {e : TypeId} (h : w.heap[g]? = some (.cells cur e (0, 0))) (i : Nat) : w.cell? ⟨g, i, none⟩ = cur[i]? ∧ w.frozen? ⟨g, i, none⟩ = false := by
  refine ⟨?_, ?_⟩
  · simp only [World.cell?, h]; rfl
  · simp only [World.frozen?, h]; simp
theorem NAt.cells {w : World} {B g : Nat} {vM vD vS : Value} {n : Nst} (h : NAt w B g vM vD vS n) : w.cell? ⟨g, 0, none⟩ = some vM ∧ w.cell? ⟨g, 1, none⟩ = some vD ∧ w.cell? ⟨g, 2, none⟩ = some vS ∧ w.frozen? ⟨g, 0, none⟩ = false ∧ w.frozen? ⟨g, 1, none⟩ = false ∧ w.frozen? ⟨g, 2, none⟩ = false :=
  ⟨(cells_at h.cell 0).1, (cells_at h.cell 1).1, (cells_at h.cell 2).1, (cells_at h.cell 0).2, (cells_at h.cell 1).2, (cells_at h.cell 2).2⟩
theorem set_heap {w : World} {g i : Nat} {cur : Array Value} {e : TypeId} (h : w.heap[g]? = some (.cells cur e (0, 0))) (u : Value) : (w.setCell ⟨g, i, none⟩ u).heap[g]? = some (.cells (cur.setIfInBounds i u) e (0, 0)) := by
  simp [World.setCell, Array.getElem?_modify, h]
theorem set_size (w : World) (p : Addr) (u : Value) : (w.setCell p u).heap.size = w.heap.size := by simp [World.setCell]
theorem chg_set (w : World) (g i : Nat) (u : Value) : Chg w (w.setCell ⟨g, i, none⟩ u) (some g) := fun k hk hne => Below.heap_setCell _ _ _ _ (by intro e; exact hne (congrArg some e))
structure NFr (w : World) (vD vD' : Value) (w' : World) : Prop where
  size : w.heap.size ≤ w'.heap.size
  oth : ∀ k cur e f, w.heap[k]? = some (.cells cur e f) → e ≠ 258 → e ≠ 282 → e ≠ 284 → some k ≠ vD.ownBlock → w'.heap[k]? = w.heap[k]?
  row : vD'.ownBlock = vD.ownBlock ∨ ∃ h, vD'.ownBlock = some h ∧ w.heap.size ≤ h
theorem NFr.refl (w : World) (vD : Value) : NFr w vD vD w := ⟨Nat.le_refl _, fun _ _ _ _ _ _ _ _ _ => rfl, .inl rfl⟩
theorem lt_of_heap {w : World} {k : Nat} {o : Obj} (h : w.heap[k]? = some o) : k < w.heap.size := (Array.getElem?_eq_some_iff.1 h).1
theorem NFr.trans {w w1 w2 : World} {v v1 v2 : Value} (h : NFr w v v1 w1) (h' : NFr w1 v1 v2 w2) : NFr w v v2 w2 := by
  refine ⟨Nat.le_trans h.size h'.size, fun k cur e f hk h1 h2 h3 h4 => ?_, ?_⟩
  · have a := h.oth k cur e f hk h1 h2 h3 h4
    rw [← a]
    refine h'.oth k cur e f (a.trans hk) h1 h2 h3 ?_
    rcases h.row with e1 | ⟨g, e1, hg⟩
    · rw [e1]; exact h4
    · rw [e1]
      intro e2
      have := lt_of_heap hk
      have := Option.some.inj e2
      omega
  · rcases h'.row with e1 | ⟨g, e1, hg⟩
    · rw [e1]; exact h.row
    · exact .inr ⟨g, e1, Nat.le_trans h.size hg⟩
theorem NFr.below {w w' : World} (v : Value) (h : Below w.heap.size w w') : NFr w v v w' := ⟨h.size, fun k cur e f hk _ _ _ _ => h.block k (lt_of_heap hk), .inl rfl⟩
theorem far_set {w1 : World} {B g i : Nat} {cur : Array Value} (hcell : w1.heap[g]? = some (.cells cur 258 (0, 0))) (u : Value) {e s n : Nat} {v : Value} {xs : List Value} (h1 : w1.ownsRow B e s v n xs) (hne : e ≠ 258) : (w1.setCell ⟨g, i, none⟩ u).ownsRow B e s v n xs :=
  own_stay h1 fun k hk => chg_set _ _ _ _ k (World.ownsRow.lt h1 k hk).2 fun e => by
    obtain ⟨cur, h2⟩ := own_type h1 hk
    obtain rfl := Option.some.inj e
    rw [hcell] at h2
    simp only [Option.some.injEq, Obj.cells.injEq] at h2
    exact hne h2.2.1.symm
theorem NAt.pushM {w w1 : World} {B g : Nat} {vM vD vS v' : Value} {n : Nst} (h : NAt w B g vM vD vS n) {M' : List (Int × Int)} (ho : OwnP 282 w1 B v' M') (hb : Below B w w1) (hc : Chg w w1 vM.ownBlock) :
    NAt (w1.setCell ⟨g, 0, none⟩ v') B g v' vD vS ⟨M', n.D, n.S⟩ ∧ NFr w vD vD (w1.setCell ⟨g, 0, none⟩ v') ∧ Below B w (w1.setCell ⟨g, 0, none⟩ v') ∧ w1.cell? ⟨g, 0, none⟩ = some vM ∧ w1.frozen? ⟨g, 0, none⟩ = false := by
  have hg : some g ≠ vM.ownBlock := fun e => by
    obtain ⟨cur, h1⟩ := own_type h.m e.symm
    rw [h.cell] at h1
    simp at h1
  have hcell := (hc g h.lt hg).trans h.cell
  refine ⟨⟨h.base, set_heap hcell _, far_set hcell _ ho (by decide), far_set hcell _ (own_beside h.d h.m (by decide) hc) (by decide), far_set hcell _ (own_beside h.s h.m (by decide) hc) (by decide)⟩, ⟨?_, fun k cur e f hk h1 h2 h3 h4 => ?_, .inl rfl⟩, hb.setCell h.base _, (cells_at hcell 0).1, (cells_at hcell 0).2⟩
  · rw [set_size]; exact hb.size
  · have hk1 : k < w.heap.size := lt_of_heap hk
    rw [chg_set _ _ _ _ k (Nat.lt_of_lt_of_le hk1 hb.size) (fun e => by obtain rfl := Option.some.inj e; rw [h.cell] at hk; simp at hk; exact h1 hk.2.1.symm), hc k hk1 (fun e => by obtain ⟨cur', h5⟩ := own_type h.m e.symm; rw [hk] at h5; simp at h5; exact h2 h5.2.1)]
theorem NAt.pushD {w w1 : World} {B g : Nat} {vM vD vS v' : Value} {n : Nst} (h : NAt w B g vM vD vS n) {D' : List Int} (ho : OwnI w1 B v' D') (hb : Below B w w1) (hc : Chg w w1 vD.ownBlock) (hn : v'.ownBlock = vD.ownBlock ∨ ∃ h, v'.ownBlock = some h ∧ w.heap.size ≤ h) :
    NAt (w1.setCell ⟨g, 1, none⟩ v') B g vM v' vS ⟨n.M, D', n.S⟩ ∧ NFr w vD v' (w1.setCell ⟨g, 1, none⟩ v') ∧ Below B w (w1.setCell ⟨g, 1, none⟩ v') ∧ w1.cell? ⟨g, 1, none⟩ = some vD ∧ w1.frozen? ⟨g, 1, none⟩ = false := by
  have hg : some g ≠ vD.ownBlock := fun e => by
    obtain ⟨cur, h1⟩ := own_type h.d e.symm
    rw [h.cell] at h1
    simp at h1
  have hcell := (hc g h.lt hg).trans h.cell
  refine ⟨⟨h.base, set_heap hcell _, far_set hcell _ (own_beside h.m h.d (by decide) hc) (by decide), far_set hcell _ ho (by decide), far_set hcell _ (own_beside h.s h.d (by decide) hc) (by decide)⟩, ⟨?_, fun k cur e f hk h1 h2 h3 h4 => ?_, hn⟩, hb.setCell h.base _, (cells_at hcell 1).1, (cells_at hcell 1).2⟩
  · rw [set_size]; exact hb.size
  · have hk1 : k < w.heap.size := lt_of_heap hk
    rw [chg_set _ _ _ _ k (Nat.lt_of_lt_of_le hk1 hb.size) (fun e => by obtain rfl := Option.some.inj e; rw [h.cell] at hk; simp at hk; exact h1 hk.2.1.symm), hc k hk1 h4]
theorem NAt.setS {w w1 : World} {B g : Nat} {vM vD vS v' : Value} {n : Nst} (h : NAt w B g vM vD vS n) {S' : List (Int × Nat)} (ho : OwnP 284 w1 B v' (prs S')) (hb : Below B w w1) (hc : Chg w w1 vS.ownBlock) :
    NAt (w1.setCell ⟨g, 2, none⟩ v') B g vM vD v' ⟨n.M, n.D, S'⟩ ∧ NFr w vD vD (w1.setCell ⟨g, 2, none⟩ v') ∧ Below B w (w1.setCell ⟨g, 2, none⟩ v') ∧ w1.cell? ⟨g, 2, none⟩ = some vS ∧ w1.frozen? ⟨g, 2, none⟩ = false := by
  have hg : some g ≠ vS.ownBlock := fun e => by
    obtain ⟨cur, h1⟩ := own_type h.s e.symm
    rw [h.cell] at h1
    simp at h1
  have hcell := (hc g h.lt hg).trans h.cell
  refine ⟨⟨h.base, set_heap hcell _, far_set hcell _ (own_beside h.m h.s (by decide) hc) (by decide), far_set hcell _ (own_beside h.d h.s (by decide) hc) (by decide), far_set hcell _ ho (by decide)⟩, ⟨?_, fun k cur e f hk h1 h2 h3 h4 => ?_, .inl rfl⟩, hb.setCell h.base _, (cells_at hcell 2).1, (cells_at hcell 2).2⟩
  · rw [set_size]; exact hb.size
  · have hk1 : k < w.heap.size := lt_of_heap hk
    rw [chg_set _ _ _ _ k (Nat.lt_of_lt_of_le hk1 hb.size) (fun e => by obtain rfl := Option.some.inj e; rw [h.cell] at hk; simp at hk; exact h1 hk.2.1.symm), hc k hk1 (fun e => by obtain ⟨cur', h5⟩ := own_type h.s e.symm; rw [hk] at h5; simp at h5; exact h3 h5.2.1)]
theorem NAt.setM {w : World} {B g p m c : Nat} {vD vS : Value} {n : Nst} (h : NAt w B g (.slice (some ⟨p, 0, none⟩) m c) vD vS n) (i : Nat) (u : Value) {M' : List (Int × Int)} (ho : OwnP 282 (w.setCell ⟨p, i, none⟩ u) B (.slice (some ⟨p, 0, none⟩) m c) M') :
    NAt (w.setCell ⟨p, i, none⟩ u) B g (.slice (some ⟨p, 0, none⟩) m c) vD vS ⟨M', n.D, n.S⟩ ∧ NFr w vD vD (w.setCell ⟨p, i, none⟩ u) ∧ Below B w (w.setCell ⟨p, i, none⟩ u) := by
  have hc : Chg w (w.setCell ⟨p, i, none⟩ u) (Value.slice (some ⟨p, 0, none⟩) m c).ownBlock := chg_set _ _ _ _
  have hg : some g ≠ (Value.slice (some ⟨p, 0, none⟩) m c).ownBlock := fun e => by
    obtain ⟨cur, h1⟩ := own_type h.m e.symm
    rw [h.cell] at h1
    simp at h1
  refine ⟨⟨h.base, (hc g h.lt hg).trans h.cell, ho, own_beside h.d h.m (by decide) hc, own_beside h.s h.m (by decide) hc⟩, ⟨?_, fun k cur e f hk h1 h2 h3 h4 => ?_, .inl rfl⟩, (Below.refl _ _).setCell (World.ownsRow.lt h.m p rfl).1 _⟩
  · rw [set_size]; exact Nat.le_refl _
  · exact hc k (lt_of_heap hk) (fun e => by obtain ⟨cur', h5⟩ := own_type h.m e.symm; rw [hk] at h5; simp at h5; exact h2 h5.2.1)
end Go.Proofs.YtffegkjlgeblbaaGreatDoor.Bod
end

section
/- The nest's depthOf, turn and end, walked. -/
namespace Go.Proofs.YtffegkjlgeblbaaGreatDoor.Bod
open Go.RowKit Ints Typ Ins
set_option maxRecDepth 100000
set_option maxHeartbeats 2000000
set_option linter.unusedVariables false

theorem depth_core (op : Int) (g k : Nat) (P : Option Addr) (c : Nat) (w : World) (t5 t11 : Bool) (r : Int) (hk : k ≤ 1000000) (h5 : (op == 5) = t5) (h11 : (op == 11) = t11) (hr : (if t5 || t11 then (k : Int) - 1 else (k : Int)) = r) (c2 : w.cell? ⟨g, 2, none⟩ = some (.slice P k c)) :
    Calls Tryz.prog 265 #[.pointer (some ⟨g, 0, none⟩), .int .i64 op] w fun e w' => e = .returned (.int .i64 r) ∧ w' = w := by
  have hw : IntKind.i64.wrap ((k : Int) - 1) = (k : Int) - 1 := IntWalk.i64_in _ (by omega)
  have HR := Lib.hid hr
  clear hr
  cases t5 with
  | true =>
    obtain rfl : (k : Int) - 1 = r := HR.out
    go_enter Tryz.func265, Tryz.ntmps265
    go_wp2_with fail
    go_ret
    exact ⟨rfl, rfl⟩
  | false =>
    cases t11 with
    | true =>
      obtain rfl : (k : Int) - 1 = r := HR.out
      go_enter Tryz.func265, Tryz.ntmps265
      go_wp2_with fail
      go_ret
      exact ⟨rfl, rfl⟩
    | false =>
      obtain rfl : (k : Int) = r := HR.out
      go_enter Tryz.func265, Tryz.ntmps265
      go_wp2_with fail
      go_ret
      exact ⟨rfl, rfl⟩
theorem NAt.stk {w : World} {B g : Nat} {vM vD vS : Value} {n : Nst} (h : NAt w B g vM vD vS n) : ∃ P c, vS = .slice P n.S.length c := by
  obtain ⟨P, c, e⟩ := OwnP.form h.s
  rw [prs_len] at e
  exact ⟨P, c, e⟩
theorem pdepth_any (op : Int) {w : World} {B g : Nat} {vM vD vS : Value} {n : Nst} (h : NAt w B g vM vD vS n) (hl : n.S.length ≤ 1000000) :
    Calls Tryz.prog 265 #[.pointer (some ⟨g, 0, none⟩), .int .i64 op] w fun e w' => e = .returned (.int .i64 (depO op n)) ∧ w' = w := by
  obtain ⟨P, c, e⟩ := h.stk
  refine depth_core op g n.S.length P c w (op == 5) (op == 11) _ hl rfl rfl ?_ (by rw [← e]; exact h.cells.2.2.1)
  unfold depO
  by_cases a : op = 5
  · simp [a]
  · by_cases b : op = 11
    · simp [b]
    · simp [a, b]
theorem turn_none (a : Int) (g : Nat) (P : Option Addr) (c : Nat) (w : World) (c2 : w.cell? ⟨g, 2, none⟩ = some (.slice P 0 c)) :
    Calls Tryz.prog 267 #[.pointer (some ⟨g, 0, none⟩), .int .i64 a] w fun e w' => e = .returned (.bool false) ∧ w' = w := by
  go_enter Tryz.func267, Tryz.ntmps267
  go_wp2_with fail
  go_ret
  exact ⟨rfl, rfl⟩
theorem end_none (a : Int) (g : Nat) (P : Option Addr) (c : Nat) (w : World) (c2 : w.cell? ⟨g, 2, none⟩ = some (.slice P 0 c)) :
    Calls Tryz.prog 268 #[.pointer (some ⟨g, 0, none⟩), .int .i64 a] w fun e w' => e = .returned (.bool false) ∧ w' = w := by
  go_enter Tryz.func268, Tryz.ntmps268
  go_wp2_with fail
  go_ret
  exact ⟨rfl, rfl⟩
end Go.Proofs.YtffegkjlgeblbaaGreatDoor.Bod
end
