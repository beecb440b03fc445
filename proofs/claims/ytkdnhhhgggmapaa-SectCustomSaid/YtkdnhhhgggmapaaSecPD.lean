/- The program's mayBe, fits, Find and Custom, walked. -/
import Derived.Test.YtkdnhhhgggmapaaSecPC
import Derived.Test.YtkdnhhhgggmapaaSecMath
namespace Go.Proofs.Ytkdnhhhgggmapaa.Sec
open Go.RowKit Utf
set_option maxRecDepth 100000
set_option maxHeartbeats 4000000
set_option linter.unusedVariables false
theorem may1_eq (last : Int) (p : Sct) : may1 last p = (decide (0 ≤ p.1) && (decide (p.1 ≤ 11) && (ris p.1 last && (nf p == 0)))) := by
  unfold may1 ris nf
  by_cases h : p.1 = 0
  · rw [h]; simp
  · have h' : (p.1 == 0) = false := by simpa using h
    rw [h', if_neg h]
    simp
theorem mayb_drop {l : List (Sct × Value)} {i : Nat} {p : Sct × Value} {last : Int} (h : l[i]? = some p) : mayb last (scL (l.drop i)) = (may1 last p.1 && mayb (max last p.1.1) (scL (l.drop (i + 1)))) := by
  obtain ⟨h1, h2⟩ := List.getElem?_eq_some_iff.1 h
  rw [List.drop_eq_getElem_cons h1, h2]
  rfl
theorem pmaybe_any {l : List (Sct × Value)} {A : Option Addr} {n c : Nat} {w : World} (hn : l.length = n) (hr : ScRow w (.slice A n c) l) (hl : n ≤ 80000) (hd : ∀ p ∈ l, p.1.2.length ≤ 1000000) :
    Calls Try.prog 28 #[.slice A n c] w fun e w' => e = .returned (.bool (mayb 0 (scL l))) ∧ Below w.heap.size w w' := by
  have HN := Lib.hid hn
  have HR := Lib.hid hr
  have HD := Lib.hid hd
  clear hn hr hd
  go_enter Try.func28, Try.ntmps28
  go_wp2_with fail
  go_loopw [3, 8] (fun la i' wr => ∃ (i : Nat) (last : Int), la = .int .i64 last ∧ i' = .int .i64 (i : Int) ∧ i ≤ n ∧ 0 ≤ last ∧ mayb 0 (scL l) = mayb last (scL (l.drop i)) ∧ Below w.heap.size w wr) (fun _ i' _ => n - (intOf i').toNat)
  case atStart => exact ⟨0, 0, rfl, by go_num, by omega, by decide, rfl, Below.refl _ _⟩
  case round =>
    obtain ⟨i, last, rfl, rfl, hi, hlo, hF, hW⟩ := hrel
    have HF := Lib.hid hF
    have HW := Lib.hid hW
    clear hF hW
    by_cases hlt : i < n
    · obtain ⟨y, hy⟩ : ∃ y, l[i]? = some y := ⟨_, List.getElem?_eq_getElem (by rw [HN.out]; exact hlt)⟩
      obtain ⟨g, off, rfl, hC, hO⟩ := (HR.out.keep HW.out).at_ hy
      have HM := Lib.hid (mayb_drop (last := last) hy)
      obtain ⟨P, cd, hp, _⟩ := id hO.1
      have hdl := HD.out _ (List.mem_of_getElem? hy)
      obtain ⟨⟨x, D⟩, ov⟩ := y
      obtain ⟨q1, q2⟩ := hC
      simp only at q1 q2 hp hdl
      obtain ⟨k, hk⟩ : ∃ k, D.length = k := ⟨_, rfl⟩
      rw [hk] at hp hdl
      subst hp
      have HK := Lib.hid hk
      have HO := Lib.hid hO
      have HME := Lib.hid (may1_eq last (x, D))
      clear hy hO hk
      have i1 : (0 : Int) ≤ (i : Int) := by omega
      have i2 : (i : Int) < (n : Int) := by omega
      have hw1 : IntKind.i64.wrap ((i : Int) + 1) = (i : Int) + 1 := IntWalk.i64_in _ (by omega)
      have hout : ∀ B : Bool, may1 last (x, D) = false → B = false → B = mayb 0 (scL l) := fun B h1 h2 => by rw [h2, HF.out, HM.out, show may1 last ((x, D), Value.slice P k cd).1 = false from h1]; rfl
      have HOUT := Lib.hid hout
      clear hout
      by_cases hx0 : x < 0
      · have s1 : decide (x < 0) = true := decide_eq_true hx0
        have HV : Hid (may1 last (x, D) = false) := Lib.hid (by rw [HME.out, decide_eq_false (by simp only; omega)]; rfl)
        go_wp2_with fail
        exact bodyPost_ret (v := .bool false) (by simp [results, Try.results28, go_sem]) rfl ⟨by rw [← HOUT.out false HV.out rfl], HW.out⟩
      · have s1 : decide (x < 0) = false := decide_eq_false hx0
        by_cases hx11 : 11 < x
        · have s2 : decide (11 < x) = true := decide_eq_true hx11
          have HV : Hid (may1 last (x, D) = false) := Lib.hid (by rw [HME.out, decide_eq_false (p := x ≤ 11) (by omega)]; simp)
          go_wp2_with fail
          exact bodyPost_ret (v := .bool false) (by simp [results, Try.results28, go_sem]) rfl ⟨by rw [← HOUT.out false HV.out rfl], HW.out⟩
        · have s2 : decide (11 < x) = false := decide_eq_false hx11
          have HPR := Lib.hid (prises_any x last wr)
          cases hrs : ris x last with
          | false =>
            rw [hrs] at HPR
            have HV : Hid (may1 last (x, D) = false) := Lib.hid (by rw [HME.out]; simp [hrs])
            go_wp2_with fail
            refine HPR.out.mono ?_
            rintro en w1 ⟨rfl, rfl⟩
            go_wp2_with fail
            exact bodyPost_ret (v := .bool false) (by simp [results, Try.results28, go_sem]) rfl ⟨by rw [← HOUT.out false HV.out rfl], HW.out⟩
          | true =>
            rw [hrs] at HPR
            have HNF := Lib.hid (pnf_any (x := x) HK.out HO.out.1 HO.out.2 (by omega))
            obtain ⟨F, hF⟩ : ∃ F, nf (x, D) = F := ⟨_, rfl⟩
            rw [hF] at HNF
            by_cases hF0 : F = 0
            · subst hF0
              obtain ⟨mx, hmx⟩ : ∃ mx, max last x = mx := ⟨_, rfl⟩
              have hmi : (if last < x then x else last) = mx := by rw [← hmx]; split <;> omega
              have HMX : Hid (0 ≤ mx) := Lib.hid (by omega)
              have HV : Hid (mayb 0 (scL l) = mayb mx (scL (l.drop (i + 1)))) := Lib.hid (by
                rw [HF.out, HM.out]
                simp only
                rw [HME.out, hmx, decide_eq_true (p := 0 ≤ x) (by omega), decide_eq_true (p := x ≤ 11) (by omega), hrs, hF]
                rfl)
              have HMI := Lib.hid hmi
              clear hmi hmx hF
              go_wp2_with fail
              refine HPR.out.mono ?_
              rintro en w1 ⟨rfl, rfl⟩
              go_wp2_with fail
              refine HNF.out.mono ?_
              rintro en w2 ⟨rfl, hb2⟩
              have HB2 := Lib.hid (HW.out.trans (hb2.mono HW.out.size))
              clear hb2
              go_wp2_with fail
              go_roundw
              case rel => exact ⟨i + 1, mx, by rw [HMI.out], by go_num, hlt, HMX.out, HV.out, HB2.out⟩
              case measure => simp [intOf]; omega
            · have hF1 : (F != 0) = true := by simpa using hF0
              have HV : Hid (may1 last (x, D) = false) := Lib.hid (by rw [HME.out, hF]; simp [hF0])
              clear hF
              go_wp2_with fail
              refine HPR.out.mono ?_
              rintro en w1 ⟨rfl, rfl⟩
              go_wp2_with fail
              refine HNF.out.mono ?_
              rintro en w2 ⟨rfl, hb2⟩
              have HB2 := Lib.hid (HW.out.trans (hb2.mono HW.out.size))
              clear hb2
              go_wp2_with fail
              exact bodyPost_ret (v := .bool false) (by simp [results, Try.results28, go_sem]) rfl ⟨by rw [← HOUT.out false HV.out rfl], HB2.out⟩
    · have hin : i = n := by omega
      subst hin
      have HV : Hid (mayb 0 (scL l) = true) := Lib.hid (by rw [HF.out, List.drop_eq_nil_of_le (by rw [HN.out]; exact Nat.le_refl _)]; rfl)
      go_wp2_with fail
      exact bodyPost_ret (v := .bool true) (by simp [results, Try.results28, go_sem]) rfl ⟨by rw [HV.out], HW.out⟩
theorem scL_take (l : List (Sct × Value)) (i : Nat) : scL (l.take i) = (scL l).take i := by simp [scL]
theorem secs_take {l : List (Sct × Value)} {i : Nat} {p : Sct × Value} (h : l[i]? = some p) : secsB (scL (l.take (i + 1))) = secsB (scL (l.take i)) ++ (p.1.1 :: (Leb.uB p.1.2.length ++ p.1.2)) := by
  obtain ⟨h1, h2⟩ := List.getElem?_eq_some_iff.1 h
  rw [List.take_succ_eq_append_getElem h1, h2, show scL (l.take i ++ [p]) = scL (l.take i) ++ [p.1] from by simp [scL], secs_app]
  simp [secsB, secB]
theorem secs_pre (l : List (Sct × Value)) (i : Nat) : (secsB (scL (l.take i))).length ≤ (secsB (scL l)).length := by
  have : scL l = scL (l.take i) ++ scL (l.drop i) := by
    unfold scL
    rw [← List.map_append, List.take_append_drop]
  rw [this, secs_app, List.length_append]
  omega
theorem pfits_any {l : List (Sct × Value)} {A : Option Addr} {n c : Nat} {w : World} (hn : l.length = n) (hr : ScRow w (.slice A n c) l) (hl : n ≤ 80000) (hd : ∀ p ∈ l, p.1.2.length ≤ 1000000) :
    Calls Try.prog 29 #[.slice A n c] w fun e w' => e = .returned (.bool (decide (8 + (secsB (scL l)).length ≤ 65536))) ∧ w' = w := by
  have HN := Lib.hid hn
  have HR := Lib.hid hr
  have HD := Lib.hid hd
  clear hn hr hd
  go_enter Try.func29, Try.ntmps29
  go_wp2_with fail
  go_loopw [3, 8] (fun s i' wr => ∃ (i m : Nat), s = .int .i64 (m : Int) ∧ i' = .int .i64 (i : Int) ∧ i ≤ n ∧ m = 8 + (secsB (scL (l.take i))).length ∧ m ≤ 65536 ∧ wr = w) (fun _ i' _ => n - (intOf i').toNat)
  case atStart => exact ⟨0, 8, rfl, by go_num, by omega, rfl, by decide, rfl⟩
  case round =>
    obtain ⟨i, m, rfl, rfl, hi, hF, hm, rfl⟩ := hrel
    have HF := Lib.hid hF
    clear hF
    by_cases hlt : i < n
    · obtain ⟨y, hy⟩ : ∃ y, l[i]? = some y := ⟨_, List.getElem?_eq_getElem (by rw [HN.out]; exact hlt)⟩
      obtain ⟨g, off, rfl, hC, hO⟩ := HR.out.at_ hy
      have HM := Lib.hid (secs_take hy)
      obtain ⟨P, cd, hp, _⟩ := id hO.1
      have hdl := HD.out _ (List.mem_of_getElem? hy)
      obtain ⟨⟨x, D⟩, ov⟩ := y
      obtain ⟨q1, q2⟩ := hC
      simp only at q1 q2 hp hdl HM
      obtain ⟨k, hk⟩ : ∃ k, D.length = k := ⟨_, rfl⟩
      rw [hk] at hp hdl
      subst hp
      have hten : Leb.lenU k ≤ 10 := Leb.lenU_ten (by omega)
      have HLU := Lib.hid (Leb.LenU_any k wr (by omega))
      have HML : Hid (8 + (secsB (scL (l.take (i + 1)))).length = m + (1 + Leb.lenU k + k)) := Lib.hid (by
        rw [HM.out, HF.out, List.length_append, List.length_cons, List.length_append, Leb.uB_len, hk]
        omega)
      have HPRE := Lib.hid (secs_pre l (i + 1))
      clear hy hO hk HM
      obtain ⟨z, hz⟩ : ∃ z, Leb.lenU k = z := ⟨_, rfl⟩
      rw [hz] at HML HLU hten
      clear hz
      have i1 : (0 : Int) ≤ (i : Int) := by omega
      have i2 : (i : Int) < (n : Int) := by omega
      have hw1 : IntKind.i64.wrap ((i : Int) + 1) = (i : Int) + 1 := IntWalk.i64_in _ (by omega)
      have hw2 : IntKind.u64.wrap (k : Int) = (k : Int) := IntWalk.u64_in _ (by omega)
      have hw3 : IntKind.i64.wrap (1 + (z : Int)) = 1 + (z : Int) := IntWalk.i64_in _ (by omega)
      have hw4 : IntKind.i64.wrap (1 + (z : Int) + (k : Int)) = 1 + (z : Int) + (k : Int) := IntWalk.i64_in _ (by omega)
      have hw5 : IntKind.i64.wrap ((m : Int) + (1 + (z : Int) + (k : Int))) = (m : Int) + (1 + (z : Int) + (k : Int)) := IntWalk.i64_in _ (by omega)
      by_cases hq : 65536 < m + (1 + z + k)
      · have t1 : decide ((65536 : Int) < (m : Int) + (1 + (z : Int) + (k : Int))) = true := decide_eq_true (by omega)
        have HV : Hid (decide (8 + (secsB (scL l)).length ≤ 65536) = false) := Lib.hid (decide_eq_false (by have := HML.out; have := HPRE.out; omega))
        go_wp2_with fail
        refine HLU.out.mono ?_
        rintro en w1 ⟨rfl, rfl⟩
        go_wp2_with fail
        exact bodyPost_ret (v := .bool false) (by simp [results, Try.results29, go_sem]) rfl ⟨by rw [HV.out], rfl⟩
      · have t1 : decide ((65536 : Int) < (m : Int) + (1 + (z : Int) + (k : Int))) = false := decide_eq_false (by omega)
        go_wp2_with fail
        refine HLU.out.mono ?_
        rintro en w1 ⟨rfl, rfl⟩
        go_wp2_with fail
        go_roundw
        case rel => exact ⟨i + 1, m + (1 + z + k), by go_num, by go_num, hlt, HML.out.symm, by omega, by first | rfl | trivial⟩
        case measure => simp [intOf]; omega
    · have hin : i = n := by omega
      subst hin
      have HV : Hid (decide (8 + (secsB (scL l)).length ≤ 65536) = true) := Lib.hid (decide_eq_true (by have := HF.out; rw [List.take_of_length_le (by rw [HN.out]; exact Nat.le_refl _)] at this; omega))
      go_wp2_with fail
      exact bodyPost_ret (v := .bool true) (by simp [results, Try.results29, go_sem]) rfl ⟨by rw [HV.out], rfl⟩
/-- The bytes of the first of an ID. -/
def fndD : Option (Sct × Value) → List Int
  | some p => p.1.2
  | none => []
def PFound (R : Option (Sct × Value)) (w : World) (e : Ending) (w' : World) : Prop := (∃ g n c, e = .returned (.tuple #[.slice g n c, .bool R.isSome]) ∧ Sl w' (.slice g n c) (fndD R) ∧ n = (fndD R).length) ∧ Below w.heap.size w w'
theorem own_row_sl {w : World} {B : Nat} {v : Value} {D : List Int} (h : w.ownsRow B 5 1 v D.length (Leb.vb D)) (hb : ∀ x ∈ D, 0 ≤ x ∧ x < 256) : Sl w v D := (Dat.ok (p := ((0, D), v)) ⟨h, hb⟩).1
theorem sl_byt_any {w : World} {A : Option Addr} {n c : Nat} {D : List Int} (h : Sl w (.slice A n c) D) : Leb.Byt w w.heap.size A D := sl_bytA h
theorem pfind_any {l : List (Sct × Value)} {A : Option Addr} {n c : Nat} {w : World} (d : Int) (hn : l.length = n) (hr : ScRow w (.slice A n c) l) (hd : ∀ p ∈ l, p.1.2.length ≤ 1000000) :
    Calls Try.prog 16 #[.slice A n c, .int .i64 d] w (PFound (fnd l d) w) := by
  have hbig : n ≤ 9223372036854775807 := by
    obtain ⟨⟨A', c', h1, h2, h3, _⟩, _⟩ := id hr
    omega
  have HN := Lib.hid hn
  have HR := Lib.hid hr
  have HD := Lib.hid hd
  clear hn hr hd
  go_enter Try.func16, Try.ntmps16
  go_wp2_with fail
  go_loopw [9] (fun i' wr => ∃ i : Nat, i' = .int .i64 (i : Int) ∧ i ≤ n ∧ fnd l d = fnd (l.drop i) d ∧ wr = w) (fun i' _ => n - (intOf i').toNat)
  case atStart => exact ⟨0, by go_num, by omega, rfl, rfl⟩
  case round =>
    obtain ⟨i, rfl, hi, hF, rfl⟩ := hrel
    have HF := Lib.hid hF
    clear hF
    by_cases hlt : i < n
    · obtain ⟨y, hy⟩ : ∃ y, l[i]? = some y := ⟨_, List.getElem?_eq_getElem (by rw [HN.out]; exact hlt)⟩
      obtain ⟨g, off, rfl, hC, hO⟩ := HR.out.at_ hy
      have HFD := Lib.hid (fnd_drop (id := d) hy)
      obtain ⟨P, cd, hp, _⟩ := id hO.1
      have hdl := HD.out _ (List.mem_of_getElem? hy)
      obtain ⟨⟨x, B⟩, ov⟩ := y
      obtain ⟨q1, q2⟩ := hC
      simp only at q1 q2 hp HFD hdl
      obtain ⟨k, hk⟩ : ∃ k, B.length = k := ⟨_, rfl⟩
      rw [hk] at hp hdl
      subst hp
      have HK := Lib.hid hk
      have HO := Lib.hid hO
      clear hy hO hk
      have i1 : (0 : Int) ≤ (i : Int) := by omega
      have i2 : (i : Int) < (n : Int) := by omega
      have hw1 : IntKind.i64.wrap ((i : Int) + 1) = (i : Int) + 1 := IntWalk.i64_in _ (by omega)
      cases hq : (x == d) with
      | true =>
        have HV : Hid (fnd l d = some ((x, B), .slice P k cd)) := by
          show _ = _
          rw [HF.out, HFD.out, if_pos hq]
        go_wp2_with fail
        refine (pclone_any HK.out (sl_bytA HO.out.1) (by omega)).mono ?_
        rintro en w1 ⟨⟨g1, n1, c1, rfl, ho1, hn1⟩, hb1⟩
        have HO1 := Lib.hid ho1
        have HN1 := Lib.hid hn1
        have HB1 := Lib.hid hb1
        clear ho1 hn1 hb1
        go_wp2_with fail
        exact bodyPost_ret (v := .tuple #[.slice g1 n1 c1, .bool true]) (by simp [results, Try.results16, go_sem]) rfl ⟨⟨g1, n1, c1, by rw [HV.out]; rfl, by rw [HV.out]; exact own_row_sl HO1.out HO.out.2, by rw [HV.out]; exact HN1.out⟩, HB1.out⟩
      | false =>
        have HV : Hid (fnd l d = fnd (l.drop (i + 1)) d) := by
          show _ = _
          rw [HF.out, HFD.out, if_neg (by rw [hq]; decide)]
        go_wp2_with fail
        go_roundw
        case rel => exact ⟨i + 1, by go_num, hlt, HV.out, by first | rfl | trivial⟩
        case measure => simp [intOf]; omega
    · have hin : i = n := by omega
      subst hin
      have HV : Hid (fnd l d = none) := by
        show _ = _
        rw [HF.out, List.drop_eq_nil_of_le (by rw [HN.out]; exact Nat.le_refl _)]
        rfl
      go_wp2_with fail
      exact bodyPost_ret (v := .tuple #[.slice none 0 0, .bool false]) (by simp [results, Try.results16, go_sem]) rfl ⟨⟨none, 0, 0, by rw [HV.out]; rfl, by rw [HV.out]; exact Sl.nil _, by rw [HV.out]; rfl⟩, Below.refl _ _⟩
theorem pcustom_err {v : Value} {s : ByteArray} {D : List Int} {w : World} (hs : s.size ≤ 1000) (hE : fltE (bl s) ≠ 0) : Calls Try.prog 18 #[.string s, v] w (CTold w (bl s) D) := by
  have HE := Lib.hid hE
  have HL := Lib.hid (play_any (.slice none 0 0) [] s (w.alloc (.cells #[.int .i64 0, .slice none 0 0] 40)) (Sl.nil _) (by simp) hs)
  have HS := Lib.hid hs
  obtain ⟨E, hEq⟩ : ∃ E, fltE (bl s) = E := ⟨_, rfl⟩
  have HEq := Lib.hid hEq
  have hE1 : (E != 0) = true := by rw [← hEq]; simpa using hE
  clear hs hE hEq
  go_enter Try.func18, Try.ntmps18
  go_wp2_with fail
  refine HL.out.mono ?_
  rintro en w1 ⟨hL, hb1⟩
  rcases hL with ⟨h0, _⟩ | ⟨_, rfl⟩
  · exact absurd h0 HE.out
  · rw [HEq.out]
    have hc : w1.heap[w.heap.size]? = some (.cells #[.int .i64 0, .slice none 0 0] 40) := by
      rw [hb1.block _ (by simp)]
      exact heap_new w _
    have z0 : w1.cell? ⟨w.heap.size, 0, none⟩ = some (.int .i64 0) := (cells_at hc 0).1
    have y0 : w1.frozen? ⟨w.heap.size, 0, none⟩ = false := (cells_at hc 0).2
    have z1 : w1.cell? ⟨w.heap.size, 1, none⟩ = some (.slice none 0 0) := (cells_at hc 1).1
    have y1 : w1.frozen? ⟨w.heap.size, 1, none⟩ = false := (cells_at hc 1).2
    have HB1 : Hid (Below w.heap.size w w1) := Lib.hid (((Below.refl w.heap.size w).alloc (Nat.le_refl _) (.cells #[.int .i64 0, .slice none 0 0] 40)).trans (hb1.mono (by simp)))
    clear hb1 hc
    go_wp2_with fail
    refine bodyPost_ret (v := .tuple #[.agg #[.int .i64 0, .slice none 0 0], .int .i64 E]) (by simp [results, Try.results18, go_sem, z0, z1]) rfl ⟨.inr ⟨HE.out, by rw [HEq.out]⟩, ?_⟩
    repeat (first | exact HB1.out | refine Below.setCell ?_ (by simp) _ | refine Below.setCell ?_ _ _)
theorem pcustom_ok {A : Option Addr} {n c : Nat} {s : ByteArray} {D : List Int} {w : World} (hs : s.size ≤ 1000) (hE : fltE (bl s) = 0) (hn : D.length = n) (hD : n ≤ 1000000) (hv : Sl w (.slice A n c) D) : Calls Try.prog 18 #[.string s, .slice A n c] w (CTold w (bl s) D) := by
  have HE := Lib.hid hE
  have HL := Lib.hid (play_any (.slice none 0 0) [] s (w.alloc (.cells #[.int .i64 0, .slice none 0 0] 40)) (Sl.nil _) (by simp) hs)
  have HLe := Lib.hid (bl_len s)
  have HU : Hid ((Leb.uB (bl s).length).length ≤ 1000000) := Lib.hid (by rw [Leb.uB_len]; have := Leb.lenU_ten (v := (bl s).length) (by rw [bl_len]; omega); omega)
  have HS := Lib.hid hs
  have HNn := Lib.hid hn
  have HA := Lib.hid (sl_bytA hv)
  clear hs hE hv hn
  go_enter Try.func18, Try.ntmps18
  go_wp2_with fail
  refine HL.out.mono ?_
  rintro en w1 ⟨hL, hb1⟩
  rcases hL with ⟨_, v1, rfl, ho1⟩ | ⟨h0, _⟩
  · have hB1 : Below w.heap.size w w1 := ((Below.refl w.heap.size w).alloc (Nat.le_refl _) (.cells #[.int .i64 0, .slice none 0 0] 40)).trans (hb1.mono (by simp))
    have hc : w1.heap[w.heap.size]? = some (.cells #[.int .i64 0, .slice none 0 0] 40) := by
      rw [hb1.block _ (by simp)]
      exact heap_new w _
    have HB1 := Lib.hid hB1
    have HC1 := Lib.hid hc
    have HO1 := Lib.hid ho1
    have HZ := Lib.hid hb1.size
    have HAW := Lib.hid (HA.out.keep hB1)
    clear hb1 hc ho1 hB1
    go_wp2_with (at_builtin; refine stop_ ?_)
    refine Lib.hid ?_
    refine Leb.wp_bytes _ rfl (.tmp 17) (.tmp 18) rfl _ w.heap.size _ _ D rfl HO1.out A c ?_ HAW.out ?_ HZ.out ?_
    focus (rw [HNn.out]; rfl)
    focus (have := HU.out; have := HLe.out; have := HS.out; rw [HNn.out]; simp only [List.length_append, List.length_nil]; omega)
    intro v2 w2 ho2 hb2
    rw [List.nil_append] at ho2
    obtain ⟨⟨g2, c2, rfl⟩, _⟩ := id ho2
    have hc : w2.heap[w.heap.size]? = some (.cells #[.int .i64 0, .slice none 0 0] 40) := (hb2.block _ (by simp)).trans HC1.out
    have z0 : w2.cell? ⟨w.heap.size, 0, none⟩ = some (.int .i64 0) := (cells_at hc 0).1
    have y0 : w2.frozen? ⟨w.heap.size, 0, none⟩ = false := (cells_at hc 0).2
    have z1 : w2.cell? ⟨w.heap.size, 1, none⟩ = some (.slice none 0 0) := (cells_at hc 1).1
    have y1 : w2.frozen? ⟨w.heap.size, 1, none⟩ = false := (cells_at hc 1).2
    have HB2 : Hid (Below w.heap.size w w2) := Lib.hid (HB1.out.trans (hb2.mono (by simp)))
    have HO2 := Lib.hid ho2
    clear hb2 hc ho2
    revert HO2
    generalize hLL : Leb.uB (bl s).length ++ bl s ++ D = LL
    intro HO2
    have HLL := Lib.hid hLL
    clear hLL
    go_wp2_with fail
    refine bodyPost_ret (v := .tuple #[.agg #[.int .i64 0, .slice (some ⟨g2, 0, none⟩) LL.length c2], .int .i64 0]) (by simp [results, Try.results18, go_sem, z0, z1]) rfl ⟨.inl ⟨HE.out, _, rfl, ?_⟩, ?_⟩
    · rw [HLL.out]
      refine own_sl8 ⟨HO2.out.1, own_stay HO2.out.2 fun k hk => ?_⟩
      have hkk := (World.ownsRow.lt HO2.out.2 k hk).1
      rw [size_new1] at hkk
      repeat rw [Below.heap_setCell _ _ _ _ (by simp only; omega)]
    · repeat (first | exact HB2.out | refine Below.setCell ?_ (by simp) _)
  · exact absurd HE.out h0
end Go.Proofs.Ytkdnhhhgggmapaa.Sec
