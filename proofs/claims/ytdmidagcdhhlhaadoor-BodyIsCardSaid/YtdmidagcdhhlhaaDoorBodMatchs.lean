/- Several parts in one text. -/
import Derived.Test.YtdmidagcdhhlhaaDoorInsRow
import Derived.Test.YtdmidagcdhhlhaaDoorBodNests
import Derived.Deep.Slices
/- The document's 'opens' and 'end'. -/
namespace Go.Proofs.YtdmidagcdhhlhaaDoor.Bod
open Go.RowKit Ints Typ Ins
set_option maxRecDepth 100000
set_option maxHeartbeats 1000000
set_option linter.unusedVariables false

/-- The codes of instructions in a row. -/
def opsL (l : List (Ins × Value)) : List Int := l.map fun p => p.1.op
theorem opsL_len (l : List (Ins × Value)) : (opsL l).length = l.length := by simp [opsL]
theorem opsL_get {l : List (Ins × Value)} {j : Nat} {p : Ins × Value} (h : l[j]? = some p) : (opsL l).getD j 0 = p.1.op := by
  unfold opsL
  rw [List.getD_eq_getElem?_getD, List.getElem?_map, h]
  rfl
theorem opens_core (op A B K : Int) (P : Option Addr) (n c : Nat) (w : World) (b1 b2 : Bool) (h1 : decide (2 ≤ op) = b1) (h2 : decide (op ≤ 4) = b2) : Calls Tryd.prog 29 #[.agg #[.int .i64 op, .int .i64 A, .int .i64 B, .int .u64 K, .slice P n c]] w fun e w' => e = .returned (.bool (b1 && b2)) ∧ Below w.heap.size w w' := by
  have HA1 := Lib.hid ((Below.refl w.heap.size w).alloc (Nat.le_refl _) (.cells #[.int .i64 op, .int .i64 A, .int .i64 B, .int .u64 K, .slice P n c] 50))
  cases b1 with
  | false =>
    clear h2
    go_enter Tryd.func29, Tryd.ntmps29
    go_wp2_with fail
    exact bodyPost_ret (v := .bool false) (by simp [results, Tryd.results29, go_sem]) rfl ⟨by simp, HA1.out⟩
  | true =>
    go_enter Tryd.func29, Tryd.ntmps29
    go_wp2_with fail
    exact bodyPost_ret (v := .bool b2) (by simp [results, Tryd.results29, go_sem]) rfl ⟨by simp, HA1.out⟩
theorem opens_any (op A B K : Int) (P : Option Addr) (n c : Nat) (w : World) : Calls Tryd.prog 29 #[.agg #[.int .i64 op, .int .i64 A, .int .i64 B, .int .u64 K, .slice P n c]] w fun e w' => e = .returned (.bool (opn op)) ∧ Below w.heap.size w w' := opens_core op A B K P n c w _ _ rfl rfl
theorem at_cells {W : World} {g off n c : Nat} {l : List (Ins × Value)} (h : InRow W (.slice (some ⟨g, off, none⟩) n c) l) {j : Nat} {p : Ins × Value} (hj : l[j]? = some p) : InCells W g (off + j * 5) p := by
  obtain ⟨g', off', e, h1, _⟩ := h.at_ hj
  injection e with e
  injection e with e1 e2
  subst e1 e2
  exact h1
theorem end_any {l : List (Ins × Value)} {g off n c : Nat} {w : World} (hn : l.length = n) (hr : InRow w (.slice (some ⟨g, off, none⟩) n c) l) (a : Nat) (ha : a < n) :
    Calls Tryd.prog 30 #[.slice (some ⟨g, off, none⟩) n c, .int .i64 (a : Int)] w fun e w' => e = .returned (.tuple #[.int .i64 (dEnd (opsL l) a).1, .int .i64 (dEnd (opsL l) a).2]) ∧ Below w.heap.size w w' := by
  have hbig : n ≤ 9223372036854775807 := by
    obtain ⟨⟨A, c', h1, h2, h3, _⟩, _⟩ := id hr
    injection h1 with _ h4 h5
    omega
  have HR := Lib.hid hr
  have HN := Lib.hid hn
  obtain ⟨pa, hpa⟩ : ∃ p, l[a]? = some p := ⟨_, List.getElem?_eq_getElem (by omega)⟩
  have HPA := Lib.hid hpa
  have HF : Hid (((opsL l).getD a 0 == 4) = (pa.1.op == 4)) := by show _ = _; rw [opsL_get hpa]
  have hw0 : IntKind.i64.wrap ((a : Int) + 1) = (a : Int) + 1 := IntWalk.i64_in _ (by omega)
  have HRes : Hid (el (pa.1.op == 4) ((opsL l).drop (a + 1)) (a + 1) 0 (-1) = dEnd (opsL l) a) := by show _ = _; unfold dEnd; rw [HF.out]
  generalize dEnd (opsL l) a = res at *
  have hin3 : (0 : Int) ≤ (a : Int) := by omega
  have hin4 : (a : Int) < (n : Int) := by omega
  clear hr hn hpa
  go_enter Tryd.func30, Tryd.ntmps30
  go_wp2_with fail
  go_loopw [6, 7, 8] (fun d' o' j' wr => ∃ (j d : Nat) (o : Int), j' = .int .i64 (j : Int) ∧ d' = .int .i64 (d : Int) ∧ o' = .int .i64 o ∧ j ≤ n ∧ d ≤ j ∧ a < j ∧ o < (j : Int) ∧ -1 ≤ o ∧ el (pa.1.op == 4) ((opsL l).drop j) j d o = res ∧ Below w.heap.size w wr) (fun _ _ j' _ => n - (intOf j').toNat)
  case atStart => exact ⟨a + 1, 0, -1, by go_num, rfl, rfl, by omega, Nat.zero_le _, by omega, by omega, by omega, HRes.out, Below.refl _ _⟩
  case round =>
    clear HRes hw0
    obtain ⟨j, d, o, rfl, rfl, rfl, hj, hd, haj, ho, ho1, hel, hW⟩ := hrel
    have HEL := Lib.hid hel
    have HWr := Lib.hid hW
    clear hel hW
    by_cases hlt : j < n
    · obtain ⟨p, hp⟩ : ∃ p, l[j]? = some p := ⟨_, List.getElem?_eq_getElem (by rw [HN.out]; exact hlt)⟩
      have hOk := HR.out.2 _ (List.mem_of_getElem? hp)
      obtain ⟨PL, cL, hpo, _⟩ := id hOk.1
      have HCj := Lib.hid (at_cells (HR.out.keep HWr.out) hp)
      have HPj := Lib.hid hp
      have HE2 := HEL.out
      rw [drop_cons (by rw [opsL_len, HN.out]; exact hlt), opsL_get hp, el] at HE2
      obtain ⟨x, ov⟩ := p
      simp only at hpo HE2
      obtain ⟨nL, hnL⟩ : ∃ nL, x.L.length = nL := ⟨_, rfl⟩
      rw [hnL] at hpo
      subst hpo
      clear hOk hp hnL
      obtain ⟨q1, q2, q3, q4, q5⟩ := HCj.out
      simp only at q1 q2 q3 q4 q5
      have hin1 : (0 : Int) ≤ (j : Int) := by omega
      have hin2 : (j : Int) < (n : Int) := by omega
      have hw1 : IntKind.i64.wrap ((j : Int) + 1) = (j : Int) + 1 := IntWalk.i64_in _ (by omega)
      by_cases hop : opn x.op = true
      · rw [if_pos hop] at HE2
        have HX := Lib.hid HE2
        clear HE2
        have hw2 : IntKind.i64.wrap ((d : Int) + 1) = (d : Int) + 1 := IntWalk.i64_in _ (by omega)
        have HOP : Hid (∀ W, Calls Tryd.prog 29 #[.agg #[.int .i64 x.op, .int .i64 x.A, .int .i64 x.B, .int .u64 x.K, .slice PL nL cL]] W fun e w' => e = .returned (.bool true) ∧ Below W.heap.size W w') := fun W => by have := opens_any x.op x.A x.B x.K PL nL cL W; rwa [hop] at this
        clear hop
        try clear h4'
        try clear h4
        try clear h50
        try clear h110
        try clear h11
        try clear h5
        try clear h0
        go_wp2_with fail
        refine (HOP.out _).mono ?_
        rintro e w2 ⟨rfl, hb⟩
        have HW2 := Lib.hid (HWr.out.trans (hb.mono HWr.out.size))
        clear hb q1 q2 q3 q4 q5
        obtain ⟨q1, q2, q3, q4, q5⟩ := at_cells (HR.out.keep HW2.out) HPj.out
        obtain ⟨r1, r2, r3, r4, r5⟩ := at_cells (HR.out.keep HW2.out) HPA.out
        simp only at q1 q2 q3 q4 q5
        go_wp2_with fail
        go_roundw
        case rel => exact ⟨j + 1, d + 1, o, by go_num, by go_num, by first | rfl | go_num, hlt, by omega, by omega, by omega, by omega, HX.out, HW2.out⟩
        case measure => simp [intOf]; omega
      · rw [if_neg hop] at HE2
        have hop : opn x.op = false := by simpa using hop
        have HOP : Hid (∀ W, Calls Tryd.prog 29 #[.agg #[.int .i64 x.op, .int .i64 x.A, .int .i64 x.B, .int .u64 x.K, .slice PL nL cL]] W fun e w' => e = .returned (.bool false) ∧ Below W.heap.size W w') := fun W => by have := opens_any x.op x.A x.B x.K PL nL cL W; rwa [hop] at this
        clear hop
        by_cases h50 : x.op = 5 ∧ d = 0
        · obtain ⟨h5, rfl⟩ := h50
          rw [if_pos ⟨h5, rfl⟩] at HE2
          have t1 : (x.op == 5) = true := by simpa using h5
          by_cases h0 : 0 ≤ o
          · rw [if_pos (.inl h0)] at HE2
            have HX := Lib.hid HE2
            clear HE2
            have t3 : decide ((0 : Int) ≤ o) = true := decide_eq_true h0
            try clear h4'
            try clear h4
            try clear h50
            try clear h110
            try clear h11
            try clear h5
            try clear h0
            go_wp2_with fail
            refine (HOP.out _).mono ?_
            rintro e w2 ⟨rfl, hb⟩
            have HW2 := Lib.hid (HWr.out.trans (hb.mono HWr.out.size))
            clear hb q1 q2 q3 q4 q5
            obtain ⟨q1, q2, q3, q4, q5⟩ := at_cells (HR.out.keep HW2.out) HPj.out
            obtain ⟨r1, r2, r3, r4, r5⟩ := at_cells (HR.out.keep HW2.out) HPA.out
            simp only at q1 q2 q3 q4 q5
            go_wp2_with fail
            rw [← HX.out]
            exact bodyPost_ret (v := .tuple #[.int .i64 (-1), .int .i64 (-1)]) (by simp [results, Tryd.results30, go_sem]) rfl ⟨rfl, HW2.out⟩
          · by_cases h4 : pa.1.op = 4
            · have h4' : (pa.1.op == 4) = true := by simpa using h4
              rw [if_neg (fun hh => hh.elim h0 (fun h5 => by rw [h4'] at h5; cases h5))] at HE2
              have HX := Lib.hid HE2
              clear HE2
              have t3 : decide ((0 : Int) ≤ o) = false := decide_eq_false h0
              have t4 : (pa.1.op != 4) = false := by simpa using h4
              try clear h4'
              try clear h4
              try clear h50
              try clear h110
              try clear h11
              try clear h5
              try clear h0
              go_wp2_with fail
              refine (HOP.out _).mono ?_
              rintro e w2 ⟨rfl, hb⟩
              have HW2 := Lib.hid (HWr.out.trans (hb.mono HWr.out.size))
              clear hb q1 q2 q3 q4 q5
              obtain ⟨q1, q2, q3, q4, q5⟩ := at_cells (HR.out.keep HW2.out) HPj.out
              obtain ⟨r1, r2, r3, r4, r5⟩ := at_cells (HR.out.keep HW2.out) HPA.out
              simp only at q1 q2 q3 q4 q5
              go_wp2_with fail
              go_roundw
              case rel => exact ⟨j + 1, 0, (j : Int), by go_num, by go_num, by first | rfl | go_num, hlt, by omega, by omega, by omega, by omega, HX.out, HW2.out⟩
              case measure => simp [intOf]; omega
            · have h4' : (pa.1.op == 4) = false := by simpa using h4
              rw [if_pos (.inr h4')] at HE2
              have HX := Lib.hid HE2
              clear HE2
              have t3 : decide ((0 : Int) ≤ o) = false := decide_eq_false h0
              have t4 : (pa.1.op != 4) = true := by simpa using h4
              try clear h4'
              try clear h4
              try clear h50
              try clear h110
              try clear h11
              try clear h5
              try clear h0
              go_wp2_with fail
              refine (HOP.out _).mono ?_
              rintro e w2 ⟨rfl, hb⟩
              have HW2 := Lib.hid (HWr.out.trans (hb.mono HWr.out.size))
              clear hb q1 q2 q3 q4 q5
              obtain ⟨q1, q2, q3, q4, q5⟩ := at_cells (HR.out.keep HW2.out) HPj.out
              obtain ⟨r1, r2, r3, r4, r5⟩ := at_cells (HR.out.keep HW2.out) HPA.out
              simp only at q1 q2 q3 q4 q5
              go_wp2_with fail
              rw [← HX.out]
              exact bodyPost_ret (v := .tuple #[.int .i64 (-1), .int .i64 (-1)]) (by simp [results, Tryd.results30, go_sem]) rfl ⟨rfl, HW2.out⟩
        · by_cases h110 : x.op = 11 ∧ d = 0
          · obtain ⟨h11, rfl⟩ := h110
            rw [if_neg h50, if_pos ⟨h11, rfl⟩] at HE2
            have HX := Lib.hid HE2
            clear HE2
            have t1 : (x.op == 5) = false := by simp; omega
            have t2 : (x.op == 11) = true := by simpa using h11
            try clear h4'
            try clear h4
            try clear h50
            try clear h110
            try clear h11
            try clear h5
            try clear h0
            go_wp2_with fail
            refine (HOP.out _).mono ?_
            rintro e w2 ⟨rfl, hb⟩
            have HW2 := Lib.hid (HWr.out.trans (hb.mono HWr.out.size))
            clear hb q1 q2 q3 q4 q5
            obtain ⟨q1, q2, q3, q4, q5⟩ := at_cells (HR.out.keep HW2.out) HPj.out
            obtain ⟨r1, r2, r3, r4, r5⟩ := at_cells (HR.out.keep HW2.out) HPA.out
            simp only at q1 q2 q3 q4 q5
            go_wp2_with fail
            rw [← HX.out]
            exact bodyPost_ret (v := .tuple #[.int .i64 ((j : Int)), .int .i64 (o)]) (by simp [results, Tryd.results30, go_sem]) rfl ⟨rfl, HW2.out⟩
          · by_cases h11 : x.op = 11
            · have hd0 : d ≠ 0 := fun e => h110 ⟨h11, e⟩
              rw [if_neg h50, if_neg h110, if_pos h11] at HE2
              have HX := Lib.hid HE2
              clear HE2
              have t1 : (x.op == 5) = false := by simp; omega
              have t2 : (x.op == 11) = true := by simpa using h11
              have t5 : ((d : Int) == 0) = false := by simp; omega
              have hw2 : IntKind.i64.wrap ((d : Int) - 1) = ((d - 1 : Nat) : Int) := by rw [IntKind.wrap_i64]; omega
              try clear h4'
              try clear h4
              try clear h50
              try clear h110
              try clear h11
              try clear h5
              try clear h0
              go_wp2_with fail
              refine (HOP.out _).mono ?_
              rintro e w2 ⟨rfl, hb⟩
              have HW2 := Lib.hid (HWr.out.trans (hb.mono HWr.out.size))
              clear hb q1 q2 q3 q4 q5
              obtain ⟨q1, q2, q3, q4, q5⟩ := at_cells (HR.out.keep HW2.out) HPj.out
              obtain ⟨r1, r2, r3, r4, r5⟩ := at_cells (HR.out.keep HW2.out) HPA.out
              simp only at q1 q2 q3 q4 q5
              go_wp2_with fail
              go_roundw
              case rel => exact ⟨j + 1, d - 1, o, by go_num, by go_num, by first | rfl | go_num, hlt, by omega, by omega, by omega, by omega, HX.out, HW2.out⟩
              case measure => simp [intOf]; omega
            · by_cases h5 : x.op = 5
              · have hd0 : d ≠ 0 := fun e => h50 ⟨h5, e⟩
                rw [if_neg h50, if_neg h110, if_neg h11] at HE2
                have HX := Lib.hid HE2
                clear HE2
                have t1 : (x.op == 5) = true := by simpa using h5
                have t2 : (x.op == 11) = false := by simp; omega
                have t5 : ((d : Int) == 0) = false := by simp; omega
                try clear h4'
                try clear h4
                try clear h50
                try clear h110
                try clear h11
                try clear h5
                try clear h0
                go_wp2_with fail
                refine (HOP.out _).mono ?_
                rintro e w2 ⟨rfl, hb⟩
                have HW2 := Lib.hid (HWr.out.trans (hb.mono HWr.out.size))
                clear hb q1 q2 q3 q4 q5
                obtain ⟨q1, q2, q3, q4, q5⟩ := at_cells (HR.out.keep HW2.out) HPj.out
                obtain ⟨r1, r2, r3, r4, r5⟩ := at_cells (HR.out.keep HW2.out) HPA.out
                simp only at q1 q2 q3 q4 q5
                go_wp2_with fail
                go_roundw
                case rel => exact ⟨j + 1, d, o, by go_num, by go_num, by first | rfl | go_num, hlt, by omega, by omega, by omega, by omega, HX.out, HW2.out⟩
                case measure => simp [intOf]; omega
              · rw [if_neg h50, if_neg h110, if_neg h11] at HE2
                have HX := Lib.hid HE2
                clear HE2
                have t1 : (x.op == 5) = false := by simpa using h5
                have t2 : (x.op == 11) = false := by simpa using h11
                try clear h4'
                try clear h4
                try clear h50
                try clear h110
                try clear h11
                try clear h5
                try clear h0
                go_wp2_with fail
                refine (HOP.out _).mono ?_
                rintro e w2 ⟨rfl, hb⟩
                have HW2 := Lib.hid (HWr.out.trans (hb.mono HWr.out.size))
                clear hb q1 q2 q3 q4 q5
                obtain ⟨q1, q2, q3, q4, q5⟩ := at_cells (HR.out.keep HW2.out) HPj.out
                obtain ⟨r1, r2, r3, r4, r5⟩ := at_cells (HR.out.keep HW2.out) HPA.out
                simp only at q1 q2 q3 q4 q5
                go_wp2_with fail
                go_roundw
                case rel => exact ⟨j + 1, d, o, by go_num, by go_num, by first | rfl | go_num, hlt, by omega, by omega, by omega, by omega, HX.out, HW2.out⟩
                case measure => simp [intOf]; omega
    · obtain rfl : j = n := by omega
      have HE3 := HEL.out
      rw [List.drop_eq_nil_of_le (by rw [opsL_len, HN.out]; exact Nat.le_refl _), el] at HE3
      go_wp2_with fail
      rw [← HE3]
      exact bodyPost_ret (v := .tuple #[.int .i64 (-1), .int .i64 (-1)]) (by simp [results, Tryd.results30, go_sem]) rfl ⟨rfl, HWr.out⟩
end Go.Proofs.YtdmidagcdhhlhaaDoor.Bod

/- Matches, and flags, of the call's own that it writes into: what lies there. -/
namespace Go.Proofs.YtdmidagcdhhlhaaDoor.Bod
open Go.RowKit
set_option maxRecDepth 100000
set_option maxHeartbeats 1000000
set_option linter.unusedVariables false

/-- A match's cells. -/
def c2 (p : Int × Int) : List Value := [.int .i64 p.1, .int .i64 p.2]
theorem flat2 : ∀ (l : List (Int × Int)) (j i : Nat) (p : Int × Int), l[j]? = some p → i < 2 → (l.flatMap c2)[j * 2 + i]? = (c2 p)[i]?
  | [], j, i, p, h, _ => by simp at h
  | q :: l, 0, i, p, h, hi => by
    simp at h
    subst h
    rw [List.flatMap_cons, Nat.zero_mul, Nat.zero_add, List.getElem?_append_left (by simp [c2]; omega)]
  | q :: l, j + 1, i, p, h, hi => by
    rw [List.getElem?_cons_succ] at h
    rw [List.flatMap_cons, List.getElem?_append_right (by simp [c2]; omega), show (j + 1) * 2 + i - (c2 q).length = j * 2 + i from by simp [c2]; omega]
    exact flat2 l j i p h hi
theorem flat2_set : ∀ (l : List (Int × Int)) (j : Nat) (a b : Int), ((l.flatMap c2).set (j * 2) (.int .i64 a)).set (j * 2 + 1) (.int .i64 b) = if j < l.length then (l.set j (a, b)).flatMap c2 else l.flatMap c2
  | [], j, a, b => by simp
  | q :: l, 0, a, b => by simp [c2]
  | q :: l, j + 1, a, b => by
    have ih := flat2_set l j a b
    have e1 : (j + 1) * 2 = (j * 2 + 1) + 1 := by omega
    rw [List.flatMap_cons, e1]
    show ((c2 q ++ List.flatMap c2 l).set (j * 2 + 1 + 1) _).set (j * 2 + 1 + 1 + 1) _ = _
    simp only [c2, List.cons_append, List.nil_append, List.set_cons_succ]
    rw [ih]
    by_cases h : j < l.length
    · rw [if_pos h, if_pos (by simp; omega)]
      simp [c2]
    · rw [if_neg h, if_neg (by simp; omega)]
/-- Matches of the call's own. -/
def MAt (w : World) (B g n : Nat) (ms : List (Int × Int)) : Prop := ms.length = n ∧ w.ownsRow B 60 2 (.slice (some ⟨g, 0, none⟩) n n) n (ms.flatMap c2)
/-- Flags of the call's own. -/
def UAt (w : World) (B g n : Nat) (us : List Bool) : Prop := us.length = n ∧ w.ownsRow B 4 1 (.slice (some ⟨g, 0, none⟩) n n) n (us.map .bool)
theorem own_keep {w w' : World} {B e s n : Nat} {v : Value} {xs : List Value} (h : w.ownsRow B e s v n xs) (hb : Below w.heap.size w w') : w'.ownsRow B e s v n xs := by
  obtain ⟨h1, h2⟩ := h
  refine ⟨h1, ?_⟩
  rcases h2 with h2 | ⟨g, cap, cur, hv, hB, hc, hle, hm, hsz, ht⟩
  · exact .inl h2
  · refine .inr ⟨g, cap, cur, hv, hB, ?_, hle, hm, hsz, ht⟩
    rw [hb.block g (Array.getElem?_eq_some_iff.1 hc).1]
    exact hc
theorem MAt.keep {w w' : World} {B g n : Nat} {ms : List (Int × Int)} (h : MAt w B g n ms) (hb : Below w.heap.size w w') : MAt w' B g n ms := ⟨h.1, own_keep h.2 hb⟩
theorem UAt.keep {w w' : World} {B g n : Nat} {us : List Bool} (h : UAt w B g n us) (hb : Below w.heap.size w w') : UAt w' B g n us := ⟨h.1, own_keep h.2 hb⟩
theorem MAt.put {w : World} {B g n : Nat} {ms : List (Int × Int)} (h : MAt w B g n ms) (j : Nat) (hj : j < n) (a b : Int) : MAt ((w.setCell ⟨g, j * 2, none⟩ (.int .i64 a)).setCell ⟨g, j * 2 + 1, none⟩ (.int .i64 b)) B g n (ms.set j (a, b)) := by
  refine ⟨by rw [List.length_set]; exact h.1, ?_⟩
  have h1 := (h.2.stored (j * 2) (.int .i64 a)).1
  have h2 := (h1.stored (j * 2 + 1) (.int .i64 b)).1
  rw [flat2_set, if_pos (by rw [h.1]; exact hj)] at h2
  exact h2
theorem UAt.put {w : World} {B g n : Nat} {us : List Bool} (h : UAt w B g n us) (j : Nat) (b : Bool) : UAt (w.setCell ⟨g, j, none⟩ (.bool b)) B g n (us.set j b) := by
  refine ⟨by rw [List.length_set]; exact h.1, ?_⟩
  have h1 := (h.2.stored j (.bool b)).1
  rw [← List.map_set] at h1
  exact h1
theorem MAt.other {w : World} {B g n : Nat} {ms : List (Int × Int)} (h : MAt w B g n ms) {g' : Nat} (hg : g ≠ g') (o : Nat) (u : Value) : MAt (w.setCell ⟨g', o, none⟩ u) B g n ms := ⟨h.1, ownsRow_setCell_other h.2 (by simp [Value.ownBlock]; omega) u⟩
theorem UAt.other {w : World} {B g n : Nat} {us : List Bool} (h : UAt w B g n us) {g' : Nat} (hg : g ≠ g') (o : Nat) (u : Value) : UAt (w.setCell ⟨g', o, none⟩ u) B g n us := ⟨h.1, ownsRow_setCell_other h.2 (by simp [Value.ownBlock]; omega) u⟩
theorem MAt.cells {w : World} {B g n : Nat} {ms : List (Int × Int)} (h : MAt w B g n ms) {j : Nat} (hj : j < n) : w.cell? ⟨g, j * 2, none⟩ = some (.int .i64 (ms.getD j (0, 0)).1) ∧ w.cell? ⟨g, j * 2 + 1, none⟩ = some (.int .i64 (ms.getD j (0, 0)).2) := by
  obtain ⟨p, hp⟩ : ∃ p, ms[j]? = some p := ⟨_, List.getElem?_eq_getElem (by rw [h.1]; exact hj)⟩
  rw [List.getD_eq_getElem?_getD, hp, h.2.cellAt (j * 2) (by omega), h.2.cellAt (j * 2 + 1) (by omega)]
  have a := flat2 ms j 0 p hp (by decide)
  have b := flat2 ms j 1 p hp (by decide)
  rw [Nat.add_zero] at a
  rw [a, b]
  exact ⟨rfl, rfl⟩
theorem UAt.cell {w : World} {B g n : Nat} {us : List Bool} (h : UAt w B g n us) {j : Nat} (hj : j < n) : w.cell? ⟨g, j, none⟩ = some (.bool (us.getD j false)) := by
  obtain ⟨p, hp⟩ : ∃ p, us[j]? = some p := ⟨_, List.getElem?_eq_getElem (by rw [h.1]; exact hj)⟩
  rw [List.getD_eq_getElem?_getD, hp, h.2.cellAt j (by omega), List.getElem?_map, hp]
  rfl
theorem MAt.free {w : World} {B g n : Nat} {ms : List (Int × Int)} (h : MAt w B g n ms) (j : Nat) : w.frozen? ⟨g, j, none⟩ = false := h.2.frozenAt j
theorem UAt.free {w : World} {B g n : Nat} {us : List Bool} (h : UAt w B g n us) (j : Nat) : w.frozen? ⟨g, j, none⟩ = false := h.2.frozenAt j
theorem MAt.lt {w : World} {B g n : Nat} {ms : List (Int × Int)} (h : MAt w B g n ms) : B ≤ g ∧ g < w.heap.size := h.2.lt g rfl
theorem UAt.lt {w : World} {B g n : Nat} {us : List Bool} (h : UAt w B g n us) : B ≤ g ∧ g < w.heap.size := h.2.lt g rfl
/-- A match's two stores: what the walk asks at each. -/
theorem MAt.two {w : World} {B g n : Nat} {ms : List (Int × Int)} (h : MAt w B g n ms) {j : Nat} (hj : j < n) (u : Value) : ((∃ x, w.cell? ⟨g, j * 2, none⟩ = some x) ∧ w.frozen? ⟨g, j * 2, none⟩ = false) ∧ (∃ x, (w.setCell ⟨g, j * 2, none⟩ u).cell? ⟨g, j * 2 + 1, none⟩ = some x) ∧ (w.setCell ⟨g, j * 2, none⟩ u).frozen? ⟨g, j * 2 + 1, none⟩ = false := by
  have h1 := (h.2.stored (j * 2) u).1
  refine ⟨⟨⟨_, (h.cells hj).1⟩, h.free _⟩, ⟨.int .i64 (ms.getD j (0, 0)).2, ?_⟩, h1.frozenAt _⟩
  have e := (h.cells hj).2
  rw [h.2.cellAt (j * 2 + 1) (by omega)] at e
  rw [h1.cellAt (j * 2 + 1) (by omega), List.getElem?_set_ne (by omega)]
  exact e
theorem match_info : (Tryd.prog.info? 60).map (fun i => (i.zero, i.size, i.bytes)) = some (some (.agg #[.int .i64 0, .int .i64 0]), 2, 16) := by kernel_rfl
theorem bool_info : (Tryd.prog.info? 4).map (fun i => (i.zero, i.size, i.bytes)) = some (some (.bool false), 1, 1) := by kernel_rfl
theorem made_two (z : Value) (n : Nat) : (madeCells #[z, z] n).toList = List.replicate n z := by
  apply List.ext_getElem
  · simp [madeCells]
  · intro i h1 h2
    have h : i % 2 < 2 := Nat.mod_lt _ (by decide)
    simp only [madeCells, Array.getElem_toList, Array.getElem_map, Array.getElem_range, List.getElem_replicate]
    show #[z, z][i % 2]! = z
    rcases (by omega : i % 2 = 0 ∨ i % 2 = 1) with e | e <;> rw [e] <;> rfl
theorem flat_zero : ∀ n, (List.replicate n ((0 : Int), (0 : Int))).flatMap c2 = List.replicate (n * 2) (.int .i64 0)
  | 0 => rfl
  | n + 1 => by
    rw [List.replicate_succ, List.flatMap_cons, flat_zero n, show (n + 1) * 2 = n * 2 + 1 + 1 from by omega, List.replicate_succ, List.replicate_succ]
    rfl
/-- 'make' of matches. -/
theorem make_M (w : World) (B n : Nat) (hn : n ≤ 100000) (hB : B ≤ w.heap.size) : ∃ w' g, (Instr.makeSlice 29 (.int .i64 (n : Int)) (.int .i64 (n : Int))).run Tryd.prog w = .ok (.slice (some ⟨g, 0, none⟩) n n) w' ∧ MAt w' B g n (List.replicate n (0, 0)) ∧ w.grownBy w' none ∧ w.heap.size ≤ g := by
  obtain ⟨i, hi, hz0, hz1, hz2⟩ := info_parts match_info
  obtain ⟨w', h1, h2, h3⟩ := run_make_full (P := Tryd.prog) w B 29 60 i _ 2 Tryd.underlying29 hi hz0 hz1 .i64 .i64 n (by rw [hz2]; omega) (by unfold maxLen; omega) hB
  refine ⟨w', _, h1, ⟨by simp, ?_⟩, h3, Nat.le_refl _⟩
  have e : (madeCells (Value.agg #[.int .i64 0, .int .i64 0]).cells (n * 2)).toList = (List.replicate n ((0 : Int), (0 : Int))).flatMap c2 := by
    rw [flat_zero]
    exact made_two (.int .i64 0) (n * 2)
  rw [e] at h2
  exact h2
theorem make_U (w : World) (B n : Nat) (hn : n ≤ 100000) (hB : B ≤ w.heap.size) : ∃ w' g, (Instr.makeSlice 59 (.int .i64 (n : Int)) (.int .i64 (n : Int))).run Tryd.prog w = .ok (.slice (some ⟨g, 0, none⟩) n n) w' ∧ UAt w' B g n (List.replicate n false) ∧ w.grownBy w' none ∧ w.heap.size ≤ g := by
  obtain ⟨i, hi, hz0, hz1, hz2⟩ := info_parts bool_info
  obtain ⟨w', h1, h2, h3⟩ := run_make_full (P := Tryd.prog) w B 59 4 i _ 1 Tryd.underlying59 hi hz0 hz1 .i64 .i64 n (by rw [hz2]; omega) (by unfold maxLen; omega) hB
  refine ⟨w', _, h1, ⟨by simp, ?_⟩, h3, Nat.le_refl _⟩
  rw [show (Value.bool false).cells = #[Value.bool false] from rfl, Nat.mul_one, toList_madeCells_one] at h2
  simpa using h2
end Go.Proofs.YtdmidagcdhhlhaaDoor.Bod

/- The document's Matches, walked. -/
namespace Go.Proofs.YtdmidagcdhhlhaaDoor.Bod
open Go.RowKit Ints Typ Ins
set_option maxRecDepth 100000
set_option maxHeartbeats 1000000
set_option linter.unusedVariables false

/-- What Matches tells. -/
def MRes (e : Ending) (w : World) (B : Nat) : Option (List (Int × Int)) → Prop
  | some ms => ∃ g, e = .returned (.tuple #[.slice (some ⟨g, 0, none⟩) ms.length ms.length, .bool true]) ∧ MAt w B g ms.length ms
  | none => e = .returned (.tuple #[.slice none 0 0, .bool false])
theorem m2_none {ops : List Int} {k : Nat} (h : m2 ops k = none) : ∀ j, k ≤ j → m2 ops j = none
  | 0, hj => by obtain rfl : k = 0 := by omega
                exact h
  | j + 1, hj => by
    by_cases e : k = j + 1
    · subst e; exact h
    · show (m2 ops j).bind (mst ops j) = none
      rw [m2_none h j (by omega)]
      rfl
theorem m2_next {ops : List Int} {k : Nat} {s : List (Int × Int) × List Bool} (h : m2 ops k = some s) : m2 ops (k + 1) = mst ops k s := by
  show (m2 ops k).bind (mst ops k) = _
  rw [h]
  rfl
theorem dM_none {ops : List Int} {k : Nat} (hk : k ≤ ops.length) (h : m2 ops k = none) : dM ops = none := by
  unfold dM
  rw [m2_none h _ hk]
  rfl
theorem fill_set {n i : Nat} (hi : i < n) {α : Type} (a b : α) : (List.replicate i a ++ List.replicate (n - i) b).set i a = List.replicate (i + 1) a ++ List.replicate (n - (i + 1)) b := by
  rw [List.set_append_right _ _ (by simp), List.length_replicate, Nat.sub_self, show n - i = (n - (i + 1)) + 1 from by omega, List.replicate_succ, List.set_cons_zero, List.replicate_succ', List.append_assoc]
  rfl
theorem dM_yes {ops : List Int} {n : Nat} {ms : List (Int × Int)} {us : List Bool} (hn : ops.length = n) (h : m2 ops n = some (ms, us)) (hu : ∀ q, q < n → (!(ops.getD q 0 == 5 || ops.getD q 0 == 11) || us.getD q false) = true) : dM ops = some ms := by
  subst hn
  have e : usedOk ops us = true := by
    unfold usedOk
    rw [List.all_eq_true]
    exact fun q hq => hu q (List.mem_range.1 hq)
  unfold dM
  rw [h, Option.bind_some, if_pos e]
theorem dM_no {ops : List Int} {n : Nat} {ms : List (Int × Int)} {us : List Bool} (hn : ops.length = n) (h : m2 ops n = some (ms, us)) {q : Nat} (hq : q < n) (h1 : (ops.getD q 0 == 5 || ops.getD q 0 == 11) = true) (h2 : us.getD q false = false) : dM ops = none := by
  subst hn
  have e : ¬ usedOk ops us = true := by
    unfold usedOk
    rw [List.all_eq_true]
    intro hh
    have := hh q (List.mem_range.2 hq)
    rw [h1, h2] at this
    cases this
  unfold dM
  rw [h, Option.bind_some, if_neg e]
theorem rmatches_any {l : List (Ins × Value)} {A : Option Addr} {g off n c : Nat} {w : World} (hn : l.length = n) (hbig : n ≤ 100000) (hA : n ≠ 0 → A = some ⟨g, off, none⟩) (hr : InRow w (.slice A n c) l) :
    Calls Tryd.prog 12 #[.slice A n c] w fun e w' => MRes e w' w.heap.size (dM (opsL l)) ∧ Below w.heap.size w w' := by
  obtain ⟨W1, g1, hmk1, hM1, hg1, hs1⟩ := make_M w w.heap.size n hbig (Nat.le_refl _)
  obtain ⟨W2, g2, hmk2, hU2, hg2, hs2⟩ := make_U W1 w.heap.size n hbig hg1.size
  have hb1 : Below w.heap.size w W1 := (Below.refl _ _).grown hg1 (Nat.le_refl _) (fun k hk => by cases hk)
  have HB2 := Lib.hid (hb1.grown hg2 hb1.size (fun k hk => by cases hk))
  have HM2 : Hid (MAt W2 w.heap.size g1 n (List.replicate n (0, 0))) := ⟨hM1.1, hM1.2.kept hg2 (by simp [Value.ownBlock])⟩
  have HU2 := Lib.hid hU2
  have HNE : Hid (g1 ≠ g2) := by
    show _ ≠ _
    have := hM1.lt
    omega
  have HG1 : Hid (w.heap.size ≤ g1) := hs1
  have HG2 : Hid (w.heap.size ≤ g2) := Nat.le_trans hg1.size hs2
  clear hM1 hU2 hg1 hg2 hs1 hs2 hb1
  have HR := Lib.hid hr
  have HN := Lib.hid hn
  have HA := Lib.hid hA
  clear hr hn hA
  go_enter Tryd.func12, Tryd.ntmps12
  go_wp2_with fail
  clear hmk1 hmk2
  go_loopw [6] (fun i' wr => ∃ i : Nat, i' = .int .i64 (i : Int) ∧ i ≤ n ∧ Below w.heap.size w wr ∧ MAt wr w.heap.size g1 n (List.replicate i (-1, -1) ++ List.replicate (n - i) (0, 0)) ∧ UAt wr w.heap.size g2 n (List.replicate n false)) (fun i' _ => n - (intOf i').toNat)
  case atStart => exact ⟨0, by go_num, by omega, HB2.out, by simpa using HM2.out, HU2.out⟩
  case round =>
    clear HB2 HM2 HU2 W1 W2
    obtain ⟨i, rfl, hi, hW, hM, hU⟩ := hrel
    have HW := Lib.hid hW
    have HM := Lib.hid hM
    have HU := Lib.hid hU
    clear hW hM hU
    by_cases hlt : i < n
    · obtain ⟨⟨⟨x1, hc1⟩, hf1⟩, ⟨x2, hc2⟩, hf2⟩ := HM.out.two hlt (.int .i64 (-1))
      have hw1 : IntKind.i64.wrap ((i : Int) + 1) = (i : Int) + 1 := IntWalk.i64_in _ (by omega)
      have hin1 : (0 : Int) ≤ (i : Int) := by omega
      have hin2 : (i : Int) < (n : Int) := by omega
      go_wp2_with fail
      go_roundw
      case rel => exact ⟨i + 1, by go_num, hlt, (HW.out.setCell HG1.out _).setCell HG1.out _, by rw [← fill_set hlt]; exact HM.out.put i hlt (-1) (-1), (HU.out.other HNE.out.symm _ _).other HNE.out.symm _ _⟩
      case measure => simp [intOf]; omega
    · obtain rfl : i = n := by omega
      have HM := Lib.hid (show MAt wr w.heap.size g1 i (List.replicate i (-1, -1)) by simpa using HM.out)
      go_wp2_with fail
      clear hlt
      go_loopw [7] (fun k' wq => ∃ (k : Nat) (ms : List (Int × Int)) (us : List Bool), k' = .int .i64 (k : Int) ∧ k ≤ i ∧ Below w.heap.size w wq ∧ MAt wq w.heap.size g1 i ms ∧ UAt wq w.heap.size g2 i us ∧ m2 (opsL l) k = some (ms, us)) (fun k' _ => i - (intOf k').toNat)
      case atStart => exact ⟨0, _, _, by go_num, by omega, HW.out, HM.out, HU.out, by show some _ = _; rw [opsL_len, HN.out]⟩
      case round =>
        clear HM HW HU
        obtain ⟨k, ms, us, rfl, hk, hW, hM, hU, hm⟩ := hrel
        have HW := Lib.hid hW
        have HM := Lib.hid hM
        have HU := Lib.hid hU
        have HMS := Lib.hid hm
        clear hW hM hU hm
        by_cases hlt : k < i
        · have hA' := HA.out (by omega)
          subst hA'
          obtain ⟨p, hp⟩ : ∃ p, l[k]? = some p := ⟨_, List.getElem?_eq_getElem (by rw [HN.out]; exact hlt)⟩
          have hOk := HR.out.2 _ (List.mem_of_getElem? hp)
          obtain ⟨PL, cL, hpo, _⟩ := id hOk.1
          have HC := Lib.hid (at_cells (HR.out.keep HW.out) hp)
          have HG := Lib.hid (opsL_get hp)
          have HX := Lib.hid (m2_next HMS.out)
          obtain ⟨x, ov⟩ := p
          simp only at hpo
          obtain ⟨nL, hnL⟩ : ∃ nL, x.L.length = nL := ⟨_, rfl⟩
          rw [hnL] at hpo
          subst hpo
          clear hOk hp hnL
          obtain ⟨q1, q2, q3, q4, q5⟩ := HC.out
          simp only at q1 q2 q3 q4 q5
          have hin1 : (0 : Int) ≤ (k : Int) := by omega
          have hin2 : (k : Int) < (i : Int) := by omega
          have hw1 : IntKind.i64.wrap ((k : Int) + 1) = (k : Int) + 1 := IntWalk.i64_in _ (by omega)
          by_cases hop : opn x.op = true
          · have HOP : Hid (∀ W, Calls Tryd.prog 29 #[.agg #[.int .i64 x.op, .int .i64 x.A, .int .i64 x.B, .int .u64 x.K, .slice PL nL cL]] W fun e w' => e = .returned (.bool true) ∧ Below W.heap.size W w') := fun W => by have := opens_any x.op x.A x.B x.K PL nL cL W; rwa [hop] at this
            have HX : Hid (m2 (opsL l) (k + 1) = if (dEnd (opsL l) k).1 < 0 then none else if 0 ≤ (dEnd (opsL l) k).2 then some ((ms.set k ((dEnd (opsL l) k).2, (dEnd (opsL l) k).1)).set (dEnd (opsL l) k).2.toNat (-1, (dEnd (opsL l) k).1), (us.set (dEnd (opsL l) k).1.toNat true).set (dEnd (opsL l) k).2.toNat true) else some (ms.set k ((dEnd (opsL l) k).2, (dEnd (opsL l) k).1), us.set (dEnd (opsL l) k).1.toNat true)) := by
              show _ = _
              have h := HX.out
              unfold mst at h
              rw [HG.out, if_pos hop] at h
              exact h
            have HE : Hid (∀ W, InRow W (.slice (some ⟨g, off, none⟩) i c) l → Calls Tryd.prog 30 #[.slice (some ⟨g, off, none⟩) i c, .int .i64 (k : Int)] W fun e w' => e = .returned (.tuple #[.int .i64 (dEnd (opsL l) k).1, .int .i64 (dEnd (opsL l) k).2]) ∧ Below W.heap.size W w') := fun W hW => end_any HN.out hW k hlt
            have HF := Lib.hid (dEnd_facts (ops := opsL l) (k := k) (by rw [opsL_len, HN.out]; exact hlt))
            clear hop
            generalize dEnd (opsL l) k = de at HX HE HF
            rcases HF.out with rfl | ⟨e, o, rfl, h1, h2, h3, h4, h5⟩
            · have HX := Lib.hid (show m2 (opsL l) (k + 1) = none by have h := HX.out; rwa [if_pos (by decide)] at h)
              go_wp2_with fail
              refine (HOP.out _).mono ?_
              rintro e w2 ⟨rfl, hb⟩
              have HW2 := Lib.hid (HW.out.trans (hb.mono HW.out.size))
              clear hb q1 q2 q3 q4 q5
              go_wp2_with fail
              refine (HE.out _ (HR.out.keep HW2.out)).mono ?_
              rintro e w3 ⟨rfl, hb⟩
              have HW3 := Lib.hid (HW2.out.trans (hb.mono HW2.out.size))
              clear hb
              go_wp2_with fail
              refine bodyPost_ret (v := .tuple #[.slice none 0 0, .bool false]) (by simp [results, Tryd.results12, go_sem]) rfl ⟨?_, HW3.out⟩
              rw [dM_none (k := k + 1) (by rw [opsL_len, HN.out]; exact hlt) HX.out]
              exact rfl
            · rw [opsL_len, HN.out] at h2
              have HX := Lib.hid (show m2 (opsL l) (k + 1) = if 0 ≤ o then some ((ms.set k (o, (e : Int))).set o.toNat (-1, (e : Int)), (us.set e true).set o.toNat true) else some (ms.set k (o, (e : Int)), us.set e true) by
                have h := HX.out
                rw [if_neg (by simp)] at h
                simpa using h)
              have t1 : decide ((e : Int) < 0) = false := decide_eq_false (by omega)
              have hin3 : (0 : Int) ≤ (e : Int) := by omega
              have hin4 : (e : Int) < (i : Int) := by omega
              by_cases ho : 0 ≤ o
              · obtain ⟨on, rfl⟩ : ∃ on : Nat, o = (on : Int) := ⟨o.toNat, by omega⟩
                have HX := Lib.hid (show m2 (opsL l) (k + 1) = some ((ms.set k ((on : Int), (e : Int))).set on (-1, (e : Int)), (us.set e true).set on true) by
                  have h := HX.out
                  rw [if_pos ho, Int.toNat_natCast] at h
                  exact h)
                have t2 : decide ((0 : Int) ≤ (on : Int)) = true := decide_eq_true ho
                have hon : on < i := by omega
                have hin5 : (on : Int) < (i : Int) := by omega
                clear h1 h3 h4 h5
                go_wp2_with fail
                refine (HOP.out _).mono ?_
                rintro e' w2 ⟨rfl, hb⟩
                have HW2 := Lib.hid (HW.out.trans (hb.mono HW.out.size))
                have HM2 := Lib.hid (HM.out.keep hb)
                have HU2 := Lib.hid (HU.out.keep hb)
                clear hb q1 q2 q3 q4 q5
                go_wp2_with fail
                refine (HE.out _ (HR.out.keep HW2.out)).mono ?_
                rintro e' w3 ⟨rfl, hb⟩
                have HW3 := Lib.hid (HW2.out.trans (hb.mono HW2.out.size))
                have HM3 := Lib.hid (HM2.out.keep hb)
                have HU3 := Lib.hid (HU2.out.keep hb)
                clear hb
                have HM4 := Lib.hid ((HM3.out.put k hlt (on : Int) (e : Int)).other HNE.out e (.bool true))
                have HU4 := Lib.hid ((((HU3.out.other HNE.out.symm (k * 2) (.int .i64 (on : Int))).other HNE.out.symm (k * 2 + 1) (.int .i64 (e : Int)))).put e true)
                have HMZ := Lib.hid ((HM4.out.put on hon (-1) (e : Int)).other HNE.out on (.bool true))
                have HUZ := Lib.hid ((((HU4.out.other HNE.out.symm (on * 2) (.int .i64 (-1))).other HNE.out.symm (on * 2 + 1) (.int .i64 (e : Int)))).put on true)
                have HWZ := Lib.hid (((((((HW3.out.setCell HG1.out (p := ⟨g1, k * 2, none⟩) (.int .i64 (on : Int))).setCell HG1.out (p := ⟨g1, k * 2 + 1, none⟩) (.int .i64 (e : Int))).setCell HG2.out (p := ⟨g2, e, none⟩) (.bool true)).setCell HG1.out (p := ⟨g1, on * 2, none⟩) (.int .i64 (-1))).setCell HG1.out (p := ⟨g1, on * 2 + 1, none⟩) (.int .i64 (e : Int)))).setCell HG2.out (p := ⟨g2, on, none⟩) (.bool true))
                obtain ⟨⟨⟨x1, hc1⟩, hf1⟩, ⟨x2, hc2⟩, hf2⟩ := HM3.out.two hlt (.int .i64 (on : Int))
                have HU3a := Lib.hid ((HU3.out.other HNE.out.symm (k * 2) (.int .i64 (on : Int))).other HNE.out.symm (k * 2 + 1) (.int .i64 (e : Int)))
                have hc3 := HU3a.out.cell h2
                have hf3 := HU3a.out.free e
                obtain ⟨⟨⟨x4, hc4⟩, hf4⟩, ⟨x5, hc5⟩, hf5⟩ := HM4.out.two hon (.int .i64 (-1))
                have HU4a := Lib.hid ((HU4.out.other HNE.out.symm (on * 2) (.int .i64 (-1))).other HNE.out.symm (on * 2 + 1) (.int .i64 (e : Int)))
                have hc6 := HU4a.out.cell hon
                have hf6 := HU4a.out.free on
                go_wp2_with fail
                go_roundw
                case rel => exact ⟨k + 1, _, _, by go_num, hlt, HWZ.out, HMZ.out, HUZ.out, HX.out⟩
                case measure => simp [intOf]; omega
              · have HY := Lib.hid (show m2 (opsL l) (k + 1) = some (ms.set k (o, (e : Int)), us.set e true) by
                  have h := HX.out
                  rwa [if_neg ho] at h)
                clear HX
                have t2 : decide ((0 : Int) ≤ o) = false := decide_eq_false ho
                clear h1 h3 h4 h5
                go_wp2_with fail
                refine (HOP.out _).mono ?_
                rintro e' w2 ⟨rfl, hb⟩
                have HW2 := Lib.hid (HW.out.trans (hb.mono HW.out.size))
                have HM2 := Lib.hid (HM.out.keep hb)
                have HU2 := Lib.hid (HU.out.keep hb)
                clear hb q1 q2 q3 q4 q5
                go_wp2_with fail
                refine (HE.out _ (HR.out.keep HW2.out)).mono ?_
                rintro e' w3 ⟨rfl, hb⟩
                have HW3 := Lib.hid (HW2.out.trans (hb.mono HW2.out.size))
                have HM3 := Lib.hid (HM2.out.keep hb)
                have HU3 := Lib.hid (HU2.out.keep hb)
                clear hb
                have HWZ := Lib.hid (((HW3.out.setCell HG1.out (p := ⟨g1, k * 2, none⟩) (.int .i64 o)).setCell HG1.out (p := ⟨g1, k * 2 + 1, none⟩) (.int .i64 (e : Int))).setCell HG2.out (p := ⟨g2, e, none⟩) (.bool true))
                have HMZ := Lib.hid ((HM3.out.put k hlt o (e : Int)).other HNE.out e (.bool true))
                have HUZ := Lib.hid ((((HU3.out.other HNE.out.symm (k * 2) (.int .i64 o)).other HNE.out.symm (k * 2 + 1) (.int .i64 (e : Int)))).put e true)
                obtain ⟨⟨⟨x1, hc1⟩, hf1⟩, ⟨x2, hc2⟩, hf2⟩ := HM3.out.two hlt (.int .i64 o)
                have HU3a := Lib.hid ((HU3.out.other HNE.out.symm (k * 2) (.int .i64 o)).other HNE.out.symm (k * 2 + 1) (.int .i64 (e : Int)))
                have hc3 := HU3a.out.cell h2
                have hf3 := HU3a.out.free e
                go_wp2_with fail
                go_roundw
                case rel => exact ⟨k + 1, _, _, by go_num, hlt, HWZ.out, HMZ.out, HUZ.out, HY.out⟩
                case measure => simp [intOf]; omega
          · have hop : opn x.op = false := by simpa using hop
            have HOP : Hid (∀ W, Calls Tryd.prog 29 #[.agg #[.int .i64 x.op, .int .i64 x.A, .int .i64 x.B, .int .u64 x.K, .slice PL nL cL]] W fun e w' => e = .returned (.bool false) ∧ Below W.heap.size W w') := fun W => by have := opens_any x.op x.A x.B x.K PL nL cL W; rwa [hop] at this
            have HX : Hid (m2 (opsL l) (k + 1) = some (ms, us)) := by
              show _ = _
              have h := HX.out
              unfold mst at h
              rw [HG.out, hop, if_neg (by decide)] at h
              exact h
            clear hop
            go_wp2_with fail
            refine (HOP.out _).mono ?_
            rintro e w2 ⟨rfl, hb⟩
            have HW2 := Lib.hid (HW.out.trans (hb.mono HW.out.size))
            have HM2 := Lib.hid (HM.out.keep hb)
            have HU2 := Lib.hid (HU.out.keep hb)
            clear hb q1 q2 q3 q4 q5
            go_wp2_with fail
            go_roundw
            case rel => exact ⟨k + 1, ms, us, by go_num, hlt, HW2.out, HM2.out, HU2.out, HX.out⟩
            case measure => simp [intOf]; omega
        · obtain rfl : k = i := by omega
          go_wp2_with fail
          clear hlt
          go_loopw [10] (fun j' wq => ∃ j : Nat, j' = .int .i64 (j : Int) ∧ j ≤ k ∧ Below w.heap.size w wq ∧ MAt wq w.heap.size g1 k ms ∧ UAt wq w.heap.size g2 k us ∧ ∀ q, q < j → (!((opsL l).getD q 0 == 5 || (opsL l).getD q 0 == 11) || us.getD q false) = true) (fun j' _ => k - (intOf j').toNat)
          case atStart => exact ⟨0, by go_num, by omega, HW.out, HM.out, HU.out, fun q hq => absurd hq (by omega)⟩
          case round =>
            clear HW HM HU
            obtain ⟨j, rfl, hj, hW, hM, hU, hall⟩ := hrel
            have HW := Lib.hid hW
            have HM := Lib.hid hM
            have HU := Lib.hid hU
            have HALL := Lib.hid hall
            clear hW hM hU hall
            by_cases hlt : j < k
            · have hA' := HA.out (by omega)
              subst hA'
              obtain ⟨p, hp⟩ : ∃ p, l[j]? = some p := ⟨_, List.getElem?_eq_getElem (by rw [HN.out]; exact hlt)⟩
              have HC := Lib.hid (at_cells (HR.out.keep HW.out) hp)
              have HG := Lib.hid (opsL_get hp)
              obtain ⟨x, ov⟩ := p
              clear hp
              obtain ⟨q1, q2, q3, q4, q5⟩ := HC.out
              clear q2 q3 q4 q5
              simp only at q1
              have hin1 : (0 : Int) ≤ (j : Int) := by omega
              have hin2 : (j : Int) < (k : Int) := by omega
              have hw1 : IntKind.i64.wrap ((j : Int) + 1) = (j : Int) + 1 := IntWalk.i64_in _ (by omega)
              have hcu := HU.out.cell hlt
              have HNX : Hid ((!(x.op == 5 || x.op == 11) || us.getD j false) = true → ∀ q, q < j + 1 → (!((opsL l).getD q 0 == 5 || (opsL l).getD q 0 == 11) || us.getD q false) = true) := fun hh q hq => by
                by_cases e : q = j
                · subst e
                  rw [HG.out]
                  exact hh
                · exact HALL.out q (by omega)
              obtain ⟨u, hu⟩ : ∃ u, us.getD j false = u := ⟨_, rfl⟩
              obtain ⟨b5, t1⟩ : ∃ b, (x.op == 5) = b := ⟨_, rfl⟩
              obtain ⟨b11, t2⟩ : ∃ b, (x.op == 11) = b := ⟨_, rfl⟩
              rw [hu] at hcu HNX
              have HUU := Lib.hid hu
              clear hu
              rw [t1, t2] at HNX
              have HT1 := Lib.hid t1
              have HT2 := Lib.hid t2
              cases b5 with
              | true =>
                clear t2
                cases u with
                | true =>
                  have HNX := Lib.hid (HNX.out (by cases b11 <;> rfl))
                  go_wp2_with fail
                  go_roundw
                  case rel => exact ⟨j + 1, by go_num, hlt, HW.out, HM.out, HU.out, HNX.out⟩
                  case measure => simp [intOf]; omega
                | false =>
                  go_wp2_with fail
                  refine bodyPost_ret (v := .tuple #[.slice none 0 0, .bool false]) (by simp [results, Tryd.results12, go_sem]) rfl ⟨?_, HW.out⟩
                  rw [dM_no (by rw [opsL_len, HN.out]) HMS.out hlt (by rw [HG.out]; simp only [HT1.out]; rfl) HUU.out]
                  exact rfl
              | false =>
                cases b11 with
                | true =>
                  cases u with
                  | true =>
                    have HNX := Lib.hid (HNX.out rfl)
                    go_wp2_with fail
                    go_roundw
                    case rel => exact ⟨j + 1, by go_num, hlt, HW.out, HM.out, HU.out, HNX.out⟩
                    case measure => simp [intOf]; omega
                  | false =>
                    go_wp2_with fail
                    refine bodyPost_ret (v := .tuple #[.slice none 0 0, .bool false]) (by simp [results, Tryd.results12, go_sem]) rfl ⟨?_, HW.out⟩
                    rw [dM_no (by rw [opsL_len, HN.out]) HMS.out hlt (by rw [HG.out]; simp only [HT1.out, HT2.out]; rfl) HUU.out]
                    exact rfl
                | false =>
                  have HNX := Lib.hid (HNX.out (by cases u <;> rfl))
                  clear hcu
                  go_wp2_with fail
                  go_roundw
                  case rel => exact ⟨j + 1, by go_num, hlt, HW.out, HM.out, HU.out, HNX.out⟩
                  case measure => simp [intOf]; omega
            · obtain rfl : j = k := by omega
              go_wp2_with fail
              refine bodyPost_ret (v := .tuple #[.slice (some ⟨g1, 0, none⟩) j j, .bool true]) (by simp [results, Tryd.results12, go_sem]) rfl ⟨?_, HW.out⟩
              rw [dM_yes (by rw [opsL_len, HN.out]) HMS.out HALL.out]
              refine ⟨g1, ?_, ?_⟩
              · rw [HM.out.1]
              · rw [HM.out.1]; exact HM.out
end Go.Proofs.YtdmidagcdhhlhaaDoor.Bod
