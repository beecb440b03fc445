/- SecPD, SecPE, SecPH. -/
import Derived.Test.YtffegkjlgeblbaaGreatDoorPkSecPC
import Derived.Test.YtffegkjlgeblbaaGreatDoorPkSecMath
import Derived.ArgAppend
import Derived.Lib.SlBytesConst
section
/- The program's mayBe, fits, Find and Custom, walked. -/
namespace Go.Proofs.YtffegkjlgeblbaaGreatDoor.Sec
open Go.RowKit Utf
set_option maxRecDepth 100000
set_option maxHeartbeats 4000000
set_option linter.unusedVariables false
theorem may1_eq (last : Int) (p : Sct) : may1 last p = (decide (0 ≤ p.1) && (decide (p.1 ≤ 11) && (ris p.1 last && (nf p == 0)))) := by
  unfold may1 ris nf
  by_cases h : p.1 = 0
  · rw [h]; simp
  · have h' : (p.1 == 0) = false := by simpa using h
    rw [h', if_neg h]
    simp
theorem mayb_drop {l : List (Sct × Value)} {i : Nat} {p : Sct × Value} {last : Int} (h : l[i]? = some p) : mayb last (scL (l.drop i)) = (may1 last p.1 && mayb (max last p.1.1) (scL (l.drop (i + 1)))) := by
  obtain ⟨h1, h2⟩ := List.getElem?_eq_some_iff.1 h
  rw [List.drop_eq_getElem_cons h1, h2]
  rfl
theorem pmaybe_any {l : List (Sct × Value)} {A : Option Addr} {n c : Nat} {w : World} (hn : l.length = n) (hr : ScRow w (.slice A n c) l) (hl : n ≤ 80000) (hd : ∀ p ∈ l, p.1.2.length ≤ 1000000) :
    Calls Tryz.prog 67 #[.slice A n c] w fun e w' => e = .returned (.bool (mayb 0 (scL l))) ∧ Below w.heap.size w w' := by
  have HN := Lib.hid hn
  have HR := Lib.hid hr
  have HD := Lib.hid hd
  clear hn hr hd
  go_enter Tryz.func67, Tryz.ntmps67
  go_wp2_with fail
  go_loopw [3, 8] (fun la i' wr => ∃ (i : Nat) (last : Int), la = .int .i64 last ∧ i' = .int .i64 (i : Int) ∧ i ≤ n ∧ 0 ≤ last ∧ mayb 0 (scL l) = mayb last (scL (l.drop i)) ∧ Below w.heap.size w wr) (fun _ i' _ => n - (intOf i').toNat)
  case atStart => exact ⟨0, 0, rfl, by go_num, by omega, by decide, rfl, Below.refl _ _⟩
  case round =>
    obtain ⟨i, last, rfl, rfl, hi, hlo, hF, hW⟩ := hrel
    have HF := Lib.hid hF
    have HW := Lib.hid hW
    clear hF hW
    by_cases hlt : i < n
    · obtain ⟨y, hy⟩ : ∃ y, l[i]? = some y := ⟨_, List.getElem?_eq_getElem (by rw [HN.out]; exact hlt)⟩
      obtain ⟨g, off, rfl, hC, hO⟩ := (HR.out.keep HW.out).at_ hy
      have HM := Lib.hid (mayb_drop (last := last) hy)
      obtain ⟨P, cd, hp, _⟩ := id hO.1
      have hdl := HD.out _ (List.mem_of_getElem? hy)
      obtain ⟨⟨x, D⟩, ov⟩ := y
      obtain ⟨q1, q2⟩ := hC
      simp only at q1 q2 hp hdl
      obtain ⟨k, hk⟩ : ∃ k, D.length = k := ⟨_, rfl⟩
      rw [hk] at hp hdl
      subst hp
      have HK := Lib.hid hk
      have HO := Lib.hid hO
      have HME := Lib.hid (may1_eq last (x, D))
      clear hy hO hk
      have i1 : (0 : Int) ≤ (i : Int) := by omega
      have i2 : (i : Int) < (n : Int) := by omega
      have hw1 : IntKind.i64.wrap ((i : Int) + 1) = (i : Int) + 1 := IntWalk.i64_in _ (by omega)
      have hout : ∀ B : Bool, may1 last (x, D) = false → B = false → B = mayb 0 (scL l) := fun B h1 h2 => by rw [h2, HF.out, HM.out, show may1 last ((x, D), Value.slice P k cd).1 = false from h1]; rfl
      have HOUT := Lib.hid hout
      clear hout
      by_cases hx0 : x < 0
      · have s1 : decide (x < 0) = true := decide_eq_true hx0
        have HV : Hid (may1 last (x, D) = false) := Lib.hid (by rw [HME.out, decide_eq_false (by simp only; omega)]; rfl)
        go_wp2_with fail
        exact bodyPost_ret (v := .bool false) (by simp [results, Tryz.results67, go_sem]) rfl ⟨by rw [← HOUT.out false HV.out rfl], HW.out⟩
      · have s1 : decide (x < 0) = false := decide_eq_false hx0
        by_cases hx11 : 11 < x
        · have s2 : decide (11 < x) = true := decide_eq_true hx11
          have HV : Hid (may1 last (x, D) = false) := Lib.hid (by rw [HME.out, decide_eq_false (p := x ≤ 11) (by omega)]; simp)
          go_wp2_with fail
          exact bodyPost_ret (v := .bool false) (by simp [results, Tryz.results67, go_sem]) rfl ⟨by rw [← HOUT.out false HV.out rfl], HW.out⟩
        · have s2 : decide (11 < x) = false := decide_eq_false hx11
          have HPR := Lib.hid (prises_any x last wr)
          cases hrs : ris x last with
          | false =>
            rw [hrs] at HPR
            have HV : Hid (may1 last (x, D) = false) := Lib.hid (by rw [HME.out]; simp [hrs])
            go_wp2_with fail
            refine HPR.out.mono ?_
            rintro en w1 ⟨rfl, rfl⟩
            go_wp2_with fail
            exact bodyPost_ret (v := .bool false) (by simp [results, Tryz.results67, go_sem]) rfl ⟨by rw [← HOUT.out false HV.out rfl], HW.out⟩
          | true =>
            rw [hrs] at HPR
            have HNF := Lib.hid (pnf_any (x := x) HK.out HO.out.1 HO.out.2 (by omega))
            obtain ⟨F, hF⟩ : ∃ F, nf (x, D) = F := ⟨_, rfl⟩
            rw [hF] at HNF
            by_cases hF0 : F = 0
            · subst hF0
              obtain ⟨mx, hmx⟩ : ∃ mx, max last x = mx := ⟨_, rfl⟩
              have hmi : (if last < x then x else last) = mx := by rw [← hmx]; split <;> omega
              have HMX : Hid (0 ≤ mx) := Lib.hid (by omega)
              have HV : Hid (mayb 0 (scL l) = mayb mx (scL (l.drop (i + 1)))) := Lib.hid (by
                rw [HF.out, HM.out]
                simp only
                rw [HME.out, hmx, decide_eq_true (p := 0 ≤ x) (by omega), decide_eq_true (p := x ≤ 11) (by omega), hrs, hF]
                rfl)
              have HMI := Lib.hid hmi
              clear hmi hmx hF
              go_wp2_with fail
              refine HPR.out.mono ?_
              rintro en w1 ⟨rfl, rfl⟩
              go_wp2_with fail
              refine HNF.out.mono ?_
              rintro en w2 ⟨rfl, hb2⟩
              have HB2 := Lib.hid (HW.out.trans (hb2.mono HW.out.size))
              clear hb2
              go_wp2_with fail
              go_roundw
              case rel => exact ⟨i + 1, mx, by rw [HMI.out], by go_num, hlt, HMX.out, HV.out, HB2.out⟩
              case measure => simp [intOf]; omega
            · have hF1 : (F != 0) = true := by simpa using hF0
              have HV : Hid (may1 last (x, D) = false) := Lib.hid (by rw [HME.out, hF]; simp [hF0])
              clear hF
              go_wp2_with fail
              refine HPR.out.mono ?_
              rintro en w1 ⟨rfl, rfl⟩
              go_wp2_with fail
              refine HNF.out.mono ?_
              rintro en w2 ⟨rfl, hb2⟩
              have HB2 := Lib.hid (HW.out.trans (hb2.mono HW.out.size))
              clear hb2
              go_wp2_with fail
              exact bodyPost_ret (v := .bool false) (by simp [results, Tryz.results67, go_sem]) rfl ⟨by rw [← HOUT.out false HV.out rfl], HB2.out⟩
    · have hin : i = n := by omega
      subst hin
      have HV : Hid (mayb 0 (scL l) = true) := Lib.hid (by rw [HF.out, List.drop_eq_nil_of_le (by rw [HN.out]; exact Nat.le_refl _)]; rfl)
      go_wp2_with fail
      exact bodyPost_ret (v := .bool true) (by simp [results, Tryz.results67, go_sem]) rfl ⟨by rw [HV.out], HW.out⟩
theorem secs_take {l : List (Sct × Value)} {i : Nat} {p : Sct × Value} (h : l[i]? = some p) : secsB (scL (l.take (i + 1))) = secsB (scL (l.take i)) ++ (p.1.1 :: (Leb.uB p.1.2.length ++ p.1.2)) := by
  obtain ⟨h1, h2⟩ := List.getElem?_eq_some_iff.1 h
  rw [List.take_succ_eq_append_getElem h1, h2, show scL (l.take i ++ [p]) = scL (l.take i) ++ [p.1] from by simp [scL], secs_app]
  simp [secsB, secB]
theorem secs_pre (l : List (Sct × Value)) (i : Nat) : (secsB (scL (l.take i))).length ≤ (secsB (scL l)).length := by
  have : scL l = scL (l.take i) ++ scL (l.drop i) := by
    unfold scL
    rw [← List.map_append, List.take_append_drop]
  rw [this, secs_app, List.length_append]
  omega
theorem pfits_any {l : List (Sct × Value)} {A : Option Addr} {n c : Nat} {w : World} (hn : l.length = n) (hr : ScRow w (.slice A n c) l) (hl : n ≤ 80000) (hd : ∀ p ∈ l, p.1.2.length ≤ 1000000) :
    Calls Tryz.prog 68 #[.slice A n c] w fun e w' => e = .returned (.bool (decide (8 + (secsB (scL l)).length ≤ 65536))) ∧ w' = w := by
  have HN := Lib.hid hn
  have HR := Lib.hid hr
  have HD := Lib.hid hd
  clear hn hr hd
  go_enter Tryz.func68, Tryz.ntmps68
  go_wp2_with fail
  go_loopw [3, 8] (fun s i' wr => ∃ (i m : Nat), s = .int .i64 (m : Int) ∧ i' = .int .i64 (i : Int) ∧ i ≤ n ∧ m = 8 + (secsB (scL (l.take i))).length ∧ m ≤ 65536 ∧ wr = w) (fun _ i' _ => n - (intOf i').toNat)
  case atStart => exact ⟨0, 8, rfl, by go_num, by omega, rfl, by decide, rfl⟩
  case round =>
    obtain ⟨i, m, rfl, rfl, hi, hF, hm, rfl⟩ := hrel
    have HF := Lib.hid hF
    clear hF
    by_cases hlt : i < n
    · obtain ⟨y, hy⟩ : ∃ y, l[i]? = some y := ⟨_, List.getElem?_eq_getElem (by rw [HN.out]; exact hlt)⟩
      obtain ⟨g, off, rfl, hC, hO⟩ := HR.out.at_ hy
      have HM := Lib.hid (secs_take hy)
      obtain ⟨P, cd, hp, _⟩ := id hO.1
      have hdl := HD.out _ (List.mem_of_getElem? hy)
      obtain ⟨⟨x, D⟩, ov⟩ := y
      obtain ⟨q1, q2⟩ := hC
      simp only at q1 q2 hp hdl HM
      obtain ⟨k, hk⟩ : ∃ k, D.length = k := ⟨_, rfl⟩
      rw [hk] at hp hdl
      subst hp
      have hten : Leb.lenU k ≤ 10 := Leb.lenU_ten (by omega)
      have HLU := Lib.hid (Leb.LenU_any k wr (by omega))
      have HML : Hid (8 + (secsB (scL (l.take (i + 1)))).length = m + (1 + Leb.lenU k + k)) := Lib.hid (by
        rw [HM.out, HF.out, List.length_append, List.length_cons, List.length_append, Leb.uB_len, hk]
        omega)
      have HPRE := Lib.hid (secs_pre l (i + 1))
      clear hy hO hk HM
      obtain ⟨z, hz⟩ : ∃ z, Leb.lenU k = z := ⟨_, rfl⟩
      rw [hz] at HML HLU hten
      clear hz
      have i1 : (0 : Int) ≤ (i : Int) := by omega
      have i2 : (i : Int) < (n : Int) := by omega
      have hw1 : IntKind.i64.wrap ((i : Int) + 1) = (i : Int) + 1 := IntWalk.i64_in _ (by omega)
      have hw2 : IntKind.u64.wrap (k : Int) = (k : Int) := IntWalk.u64_in _ (by omega)
      have hw3 : IntKind.i64.wrap (1 + (z : Int)) = 1 + (z : Int) := IntWalk.i64_in _ (by omega)
      have hw4 : IntKind.i64.wrap (1 + (z : Int) + (k : Int)) = 1 + (z : Int) + (k : Int) := IntWalk.i64_in _ (by omega)
      have hw5 : IntKind.i64.wrap ((m : Int) + (1 + (z : Int) + (k : Int))) = (m : Int) + (1 + (z : Int) + (k : Int)) := IntWalk.i64_in _ (by omega)
      by_cases hq : 65536 < m + (1 + z + k)
      · have t1 : decide ((65536 : Int) < (m : Int) + (1 + (z : Int) + (k : Int))) = true := decide_eq_true (by omega)
        have HV : Hid (decide (8 + (secsB (scL l)).length ≤ 65536) = false) := Lib.hid (decide_eq_false (by have := HML.out; have := HPRE.out; omega))
        go_wp2_with fail
        refine HLU.out.mono ?_
        rintro en w1 ⟨rfl, rfl⟩
        go_wp2_with fail
        exact bodyPost_ret (v := .bool false) (by simp [results, Tryz.results68, go_sem]) rfl ⟨by rw [HV.out], rfl⟩
      · have t1 : decide ((65536 : Int) < (m : Int) + (1 + (z : Int) + (k : Int))) = false := decide_eq_false (by omega)
        go_wp2_with fail
        refine HLU.out.mono ?_
        rintro en w1 ⟨rfl, rfl⟩
        go_wp2_with fail
        go_roundw
        case rel => exact ⟨i + 1, m + (1 + z + k), by go_num, by go_num, hlt, HML.out.symm, by omega, by first | rfl | trivial⟩
        case measure => simp [intOf]; omega
    · have hin : i = n := by omega
      subst hin
      have HV : Hid (decide (8 + (secsB (scL l)).length ≤ 65536) = true) := Lib.hid (decide_eq_true (by have := HF.out; rw [List.take_of_length_le (by rw [HN.out]; exact Nat.le_refl _)] at this; omega))
      go_wp2_with fail
      exact bodyPost_ret (v := .bool true) (by simp [results, Tryz.results68, go_sem]) rfl ⟨by rw [HV.out], rfl⟩
end Go.Proofs.YtffegkjlgeblbaaGreatDoor.Sec
end

section
/- Join, by the program and by the document: walked. -/
namespace Go.Proofs.YtffegkjlgeblbaaGreatDoor.Sec
open Go.RowKit Utf
set_option maxRecDepth 100000
set_option maxHeartbeats 8000000
set_option linter.unusedVariables false
def Mrk (w : World) (B : Nat) (v : Value) (l : List Int) : Prop := ∃ g, v = .slice (some ⟨g, 0, none⟩) l.length l.length ∧ B ≤ g ∧ w.heap[g]? = some (.cells (Leb.vb l).toArray 5 (l.length, l.length + 1))
theorem Mrk.mono {w : World} {B B' : Nat} {v : Value} {l : List Int} (h : Mrk w B v l) (hB : B' ≤ B) : Mrk w B' v l := by
  obtain ⟨g, h1, h2, h3⟩ := h
  exact ⟨g, h1, by omega, h3⟩
theorem Mrk.cells {w : World} {B g n c : Nat} {l : List Int} (h : Mrk w B (.slice (some ⟨g, 0, none⟩) n c) l) : ∀ j u, (Leb.vb l)[j]? = some u → w.cell? ⟨g, 0 + j, none⟩ = some u := by
  obtain ⟨g', h1, _, h3⟩ := h
  injection h1 with e
  simp only [Option.some.injEq, Addr.mk.injEq, and_true] at e
  subst e
  intro j u hu
  rw [Nat.zero_add]
  simp only [World.cell?, h3]
  simpa using hu
theorem Mrk.sl {w : World} {B : Nat} {v : Value} {l : List Int} (h : Mrk w B v l) (hl : l.length ≤ 1000000) : Sl w v l := by
  obtain ⟨g, rfl, h2, h3⟩ := id h
  refine ⟨_, _, rfl, Nat.le_refl _, by omega, fun _ => ⟨g, 0, rfl, (Array.getElem?_eq_some_iff.1 h3).1, rfl, fun j hj => ?_⟩⟩
  exact h.cells j _ (by unfold Leb.vb; rw [List.getElem?_map, List.getElem?_eq_getElem hj, List.getD_eq_getElem?_getD, List.getElem?_eq_getElem hj]; rfl)
def ORow (w : World) (B : Nat) (v : Value) (l : List Int) : Prop := Leb.Own w B v l ∨ (Mrk w B v l ∧ l.length ≤ 1000)
theorem ORow.sl {w : World} {B : Nat} {v : Value} {l : List Int} (h : ORow w B v l) : Sl w v l := by
  rcases h with h | ⟨h, h'⟩
  · exact own_sl8 h
  · exact h.sl (by omega)
theorem ORow.form {w : World} {B : Nat} {v : Value} {l : List Int} (h : ORow w B v l) : ∃ g c, v = .slice (some ⟨g, 0, none⟩) l.length c := by
  rcases h with h | ⟨⟨g, h, _⟩, _⟩
  · exact h.1
  · exact ⟨g, _, h⟩
def Wri (w : World) (B : Nat) (v : Value) (l : List Int) : Prop := ∃ g c cur fz, v = .slice (some ⟨g, 0, none⟩) l.length c ∧ l.length ≤ c ∧ c ≤ 9223372036854775807 ∧ B ≤ g ∧ w.heap[g]? = some (.cells cur 5 fz) ∧ (∀ i, i < l.length → ¬ (fz.1 ≤ i ∧ i < fz.2)) ∧ cur.toList.take l.length = Leb.vb l
theorem ORow.wri {w : World} {B : Nat} {v : Value} {l : List Int} (h : ORow w B v l) : Wri w B v l := by
  rcases h with ⟨⟨g, c, hv⟩, _, ⟨h1, _⟩ | ⟨g', cap, cur, hv', hB, hc, hle, hm, hsz, ht⟩⟩ | ⟨⟨g, hv, hB, hc⟩, hl⟩
  · rw [hv] at h1; cases h1
  · exact ⟨g', cap, cur, (0, 0), hv', hle, by unfold maxLen at hm; omega, hB, hc, fun i _ h => by omega, by rw [← ht, Nat.mul_one]⟩
  · refine ⟨g, _, _, _, hv, Nat.le_refl _, by omega, hB, hc, fun i hi h => by simp only at h; omega, ?_⟩
    rw [List.take_of_length_le (by simp [Leb.vb])]
theorem wp_byteM {ops : Array Oper} {rest : List Oper} {o : Oper} {a : Act} {Q : Exit → Act → World → Prop} (w : World) (hgd : o.guard = none) (s x : Operand)
    (ho : o.op = .call { callee := .builtin .append, args := #[s, x], argTypes := #[22, 22] }) (B : Nat) (v : Value) (done : List Int) (y : Int) (hs : a.eval s = v) (hown : ORow w B v done)
    (hx : a.eval x = .slice (some ⟨w.heap.size, 0, none⟩) 1 1) (hlen : done.length ≤ 10000000) (hB : B ≤ w.heap.size)
    (h : ∀ v' w', Leb.Own w' B v' (done ++ [y]) → Below B w w' → wpList Tryz.prog ops Q rest (a.put o.dst v') w') : wpList Tryz.prog ops Q (o :: rest) a (w.alloc (.cells #[.int .u8 y] 5)) := by
  rcases hown with hown | ⟨hm, hl⟩
  · exact Leb.wp_byte w hgd s x ho B v done y hs hown hx hlen hB h
  · obtain ⟨i0, hi, hz0, hz1, hz2⟩ := info_parts Leb.byte_info
    obtain ⟨g, rfl, hg, hc⟩ := id hm
    have hgl : g < w.heap.size := (Array.getElem?_eq_some_iff.1 hc).1
    have hAL := (Below.refl w.heap.size w).alloc (Nat.le_refl _) (.cells #[.int .u8 y] 5)
    refine wpList_append_grows _ hgd s x 22 ho 5 i0 (.int .u8 0) 1 1 Tryz.underlying22 hi hz0 hz1 hz2 rfl (by decide) (some ⟨g, 0, none⟩) done.length done.length (Leb.vb done) hs (by intro e; cases e) (by rw [Leb.vb_length, Nat.mul_one]) ?_ ⟨w.heap.size, 0, none⟩ 1 1 [.int .u8 y] hx rfl (Leb.one_new w _) (by intro u hu; simp at hu; subst hu; rfl) (by omega) (by simp only [maxLen]; omega) (by omega) ?_
    · intro b hb j u hu
      obtain rfl := Option.some.inj hb
      rw [s_plain]
      rw [hAL.cell (p := ⟨g, 0 + j, none⟩) hgl]
      exact hm.cells j u hu
    · intro v' w' ho' hgr
      have ho2 : w'.ownsRow B 5 1 v' (done ++ [y]).length (Leb.vb (done ++ [y])) := by
        rw [Leb.vb_append, List.length_append]
        exact own_low ho' (by rw [size_new1]; omega)
      obtain ⟨_, ⟨_, h0⟩ | ⟨g2, c2, cur2, hv2, _⟩⟩ := id ho2
      · simp at h0
      · exact h v' w' ⟨⟨g2, c2, hv2⟩, ho2⟩ (((Below.refl _ _).alloc hB _).grown hgr (by simp; omega) (fun k hk => by cases hk))
theorem mayb_mem : ∀ (l : List Sct) (last : Int), mayb last l = true → ∀ p ∈ l, 0 ≤ p.1 ∧ p.1 ≤ 11
  | [], _, _, p, hp => by cases hp
  | q :: l, last, h, p, hp => by
    obtain ⟨m1, m2⟩ := may_cons h
    rcases List.mem_cons.1 hp with rfl | hp
    · exact may1_in m1
    · exact mayb_mem l _ m2 p hp
def JTold (R : List Int × Int) (w : World) (e : Ending) (w' : World) : Prop := (∃ g n c, e = .returned (.tuple #[.slice g n c, .int .i64 R.2]) ∧ n = R.1.length ∧ (R.2 = 0 → Wri w' w.heap.size (.slice g n c) R.1) ∧ Sl w' (.slice g n c) R.1) ∧ Below w.heap.size w w'
theorem join_bad {l : List Sct} (h : mayb 0 l = false) : join7 l = ([], 1) := by unfold join7; rw [if_pos h]
theorem join_big {l : List Sct} (h : mayb 0 l = true) (h2 : 65536 < 8 + (secsB l).length) : join7 l = ([], 4) := by unfold join7; rw [if_neg (by rw [h]; simp), if_pos h2]
theorem join_ok {l : List Sct} (h : mayb 0 l = true) (h2 : 8 + (secsB l).length ≤ 65536) : join7 l = (hd8 ++ secsB l, 0) := by unfold join7; rw [if_neg (by rw [h]; simp), if_neg (by omega)]
theorem jtold_err {w w' : World} {E : Int} (hE : E ≠ 0) (h : Below w.heap.size w w') : JTold ([], E) w (.returned (.tuple #[.slice none 0 0, .int .i64 E])) w' := ⟨⟨none, 0, 0, rfl, rfl, fun h => absurd h hE, Sl.nil _⟩, h⟩
theorem sc_lt {w : World} {g o : Nat} {p : Sct × Value} (h : ScCells w g o p) : g < w.heap.size := World.block_lt_of_cell? w ⟨g, o, none⟩ h.1
theorem pjoin_any {l : List (Sct × Value)} {A : Option Addr} {n c : Nat} {w : World} (hn : l.length = n) (hr : ScRow w (.slice A n c) l) (hl : n ≤ 80000) (hd : ∀ p ∈ l, p.1.2.length ≤ 1000000) :
    Calls Tryz.prog 30 #[.slice A n c] w (JTold (join7 (scL l)) w) := by
  have HM := Lib.hid (pmaybe_any hn hr hl hd)
  have HN := Lib.hid hn
  have HR := Lib.hid hr
  have HD := Lib.hid hd
  clear hn hr hd
  cases hm : mayb 0 (scL l) with
  | false =>
    rw [join_bad hm]
    rw [hm] at HM
    clear hm
    go_enter Tryz.func30, Tryz.ntmps30
    go_wp2_with fail
    refine HM.out.mono ?_
    rintro en w1 ⟨rfl, hb1⟩
    have HB1 := Lib.hid hb1
    clear hb1
    go_wp2_with fail
    exact bodyPost_ret (v := .tuple #[.slice none 0 0, .int .i64 1]) (by simp [results, Tryz.results30, go_sem]) rfl (jtold_err (by decide) HB1.out)
  | true =>
    rw [hm] at HM
    by_cases hbig : 65536 < 8 + (secsB (scL l)).length
    · rw [join_big hm hbig]
      have hf : decide (8 + (secsB (scL l)).length ≤ 65536) = false := decide_eq_false (by omega)
      have HF := Lib.hid hf
      clear hm hf hbig
      go_enter Tryz.func30, Tryz.ntmps30
      go_wp2_with fail
      refine HM.out.mono ?_
      rintro en w1 ⟨rfl, hb1⟩
      have HB1 := Lib.hid hb1
      clear hb1
      go_wp2_with fail
      refine (pfits_any HN.out (HR.out.keep HB1.out) hl HD.out).mono ?_
      rintro en w2 ⟨rfl, rfl⟩
      rw [HF.out]
      go_wp2_with fail
      exact bodyPost_ret (v := .tuple #[.slice none 0 0, .int .i64 4]) (by simp [results, Tryz.results30, go_sem]) rfl (jtold_err (by decide) HB1.out)
    · rw [join_ok hm (by omega)]
      have hf : decide (8 + (secsB (scL l)).length ≤ 65536) = true := decide_eq_true (by omega)
      have HF := Lib.hid hf
      have HMM := Lib.hid (mayb_mem _ _ hm)
      have HT : Hid ((secsB (scL l)).length ≤ 65528) := Lib.hid (by omega)
      clear hm hf hbig
      go_enter Tryz.func30, Tryz.ntmps30
      go_wp2_with fail
      refine HM.out.mono ?_
      rintro en w1 ⟨rfl, hb1⟩
      have HB1 := Lib.hid hb1
      clear hb1
      go_wp2_with fail
      refine (pfits_any HN.out (HR.out.keep HB1.out) hl HD.out).mono ?_
      rintro en w2 ⟨rfl, rfl⟩
      rw [HF.out]
      have HOW : Hid (Mrk (w2.alloc (.cells #[.int .u8 0, .int .u8 97, .int .u8 115, .int .u8 109, .int .u8 1, .int .u8 0, .int .u8 0, .int .u8 0] 5 (8, 9))) w2.heap.size (.slice (some ⟨w2.heap.size, 0, none⟩) 8 8) hd8) := Lib.hid ⟨w2.heap.size, rfl, Nat.le_refl _, heap_new w2 _⟩
      have HB2 := Lib.hid (HB1.out.trans (((Below.refl w2.heap.size w2).alloc (Nat.le_refl _) (.cells #[.int .u8 0, .int .u8 97, .int .u8 115, .int .u8 109, .int .u8 1, .int .u8 0, .int .u8 0, .int .u8 0] 5 (8, 9))).mono HB1.out.size))
      have kc := fun (W : World) (C : Array Value) (n c : Nat) => Lib.run_convert_bytes_const (P := Tryz.prog) W 22 5 C n c Tryz.underlying22 Tryz.underlying5
      go_wp2_with fail
      go_loopw [4, 16] (fun v i' wr => ∃ i : Nat, i' = .int .i64 (i : Int) ∧ i ≤ n ∧ ORow wr w.heap.size v (hd8 ++ secsB (scL (l.take i))) ∧ Below w.heap.size w wr) (fun _ i' _ => n - (intOf i').toNat)
      case atStart => exact ⟨0, by go_num, by omega, .inr ⟨HOW.out.mono HB1.out.size, by simp [hd8, secsB, scL]⟩, HB2.out⟩
      case round =>
        obtain ⟨i, rfl, hi, hO, hW⟩ := hrel
        have HO := Lib.hid hO
        have HW := Lib.hid hW
        clear hO hW
        by_cases hlt : i < n
        · obtain ⟨y, hy⟩ : ∃ y, l[i]? = some y := ⟨_, List.getElem?_eq_getElem (by rw [HN.out]; exact hlt)⟩
          obtain ⟨g, off, rfl, hC0, hO0⟩ := HR.out.at_ hy
          have HC := Lib.hid hC0
          have HS := Lib.hid (secs_take hy)
          obtain ⟨P, cd, hp, _⟩ := id hO0.1
          have hdl := HD.out _ (List.mem_of_getElem? hy)
          have hx := HMM.out _ (List.mem_of_getElem? (scL_get hy))
          have HPR := Lib.hid (secs_pre l (i + 1))
          have HGL := Lib.hid (sc_lt hC0)
          obtain ⟨q1, q2⟩ := hC0.keep HGL.out HW.out
          obtain ⟨⟨x, D⟩, ov⟩ := y
          simp only at q1 q2 hp hdl hx HS
          obtain ⟨k, hk⟩ : ∃ k, D.length = k := ⟨_, rfl⟩
          rw [hk] at hp hdl HS
          subst hp
          have HK := Lib.hid hk
          have HDA : Hid (Leb.Byt w w.heap.size P D) := Lib.hid (sl_bytA hO0.1)
          clear hy hO0 hC0 hk
          obtain ⟨T, hT⟩ : ∃ T, hd8 ++ secsB (scL (l.take i)) = T := ⟨_, rfl⟩
          have HTT : Hid (T.length + (1 + Leb.lenU k + k) ≤ 65536) := Lib.hid (by
            have h1 := HPR.out
            have h2 := HT.out
            rw [HS.out, List.length_append, List.length_cons, List.length_append, Leb.uB_len, HK.out] at h1
            rw [← hT, List.length_append, show hd8.length = 8 from rfl]
            omega)
          have HST : Hid (hd8 ++ secsB (scL (l.take (i + 1))) = T ++ [x] ++ Leb.uB k ++ D) := Lib.hid (by rw [HS.out, ← hT]; simp)
          rw [hT] at HO
          clear hT
          have i1 : (0 : Int) ≤ (i : Int) := by omega
          have i2 : (i : Int) < (n : Int) := by omega
          have hw1 : IntKind.i64.wrap ((i : Int) + 1) = (i : Int) + 1 := IntWalk.i64_in _ (by omega)
          have hw2 : IntKind.u8.wrap x = x := by rw [IntKind.wrap_u8]; omega
          have hw3 : IntKind.u64.wrap (k : Int) = (k : Int) := IntWalk.u64_in _ (by omega)
          go_wp2_with (at_builtin; refine stop_ ?_)
          refine Lib.hid ?_
          refine wp_byteM wr rfl (.tmp 19) (.tmp 26) rfl w.heap.size _ T x rfl HO.out rfl ?_ HW.out.size ?_
          focus (have := HTT.out; omega)
          intro v3 w3 ho3 hb3
          have HB3 := Lib.hid (HW.out.trans hb3)
          have HO3 := Lib.hid ho3
          clear ho3 hb3 q1 q2
          obtain ⟨q1, q2⟩ := HC.out.keep HGL.out HB3.out
          simp only at q1 q2
          have HU := Lib.hid (Leb.U_any none 0 k [] w3 (Leb.byt_nil _ _ _) (by simp) (by omega))
          rw [List.nil_append] at HU
          go_wp2_with fail
          refine HU.out.mono ?_
          rintro en w4 ⟨v4, rfl, ho4, hb4⟩
          obtain ⟨⟨g4, c4, rfl⟩, _⟩ := id ho4
          have HO4 := Lib.hid ho4
          have HB4 := Lib.hid (HB3.out.trans (hb4.mono HB3.out.size))
          have HO34 := Lib.hid (HO3.out.keep hb4)
          clear ho4 hb4
          go_wp2_with (at_builtin; refine stop_ ?_)
          refine Lib.hid ?_
          refine Leb.wp_bytes _ rfl (.tmp 28) (.tmp 36) rfl w.heap.size w4.heap.size _ (T ++ [x]) (Leb.uB k) rfl HO34.out (some ⟨g4, 0, none⟩) c4 ?_ ?_ ?_ HB4.out.size ?_
          focus rfl
          focus (exact Leb.Own.byt HO4.out)
          focus (have := HTT.out; rw [Leb.uB_len, List.length_append]; simp; omega)
          intro v5 w5 ho5 hb5
          have HB5 := Lib.hid (HB4.out.trans hb5)
          have HO5 := Lib.hid ho5
          clear ho5 hb5 q1 q2
          obtain ⟨q1, q2⟩ := HC.out.keep HGL.out HB5.out
          simp only at q1 q2
          go_wp2_with (at_builtin; refine stop_ ?_)
          refine Lib.hid ?_
          refine Leb.wp_bytes _ rfl (.tmp 38) (.tmp 43) rfl w.heap.size w.heap.size _ (T ++ [x] ++ Leb.uB k) D rfl HO5.out P cd ?_ (HDA.out.keep HB5.out) ?_ HB5.out.size ?_
          focus (rw [HK.out]; rfl)
          focus (have := HTT.out; rw [HK.out, List.length_append, List.length_append, Leb.uB_len]; simp; omega)
          intro v6 w6 ho6 hb6
          rw [← HST.out] at ho6
          have HB6 := Lib.hid (HB5.out.trans hb6)
          have HO6 := Lib.hid ho6
          clear ho6 hb6 q1 q2
          go_wp2_with fail
          go_roundw
          case rel => exact ⟨i + 1, by go_num, hlt, .inl HO6.out, HB6.out⟩
          case measure => simp [intOf]; omega
        · have hin : i = n := by omega
          subst hin
          rw [List.take_of_length_le (by rw [HN.out]; exact Nat.le_refl _)] at HO
          obtain ⟨g7, c7, rfl⟩ := HO.out.form
          obtain ⟨m, hm⟩ : ∃ m, (hd8 ++ secsB (scL l)).length = m := ⟨_, rfl⟩
          have HMM2 := Lib.hid hm
          rw [hm] at HO ⊢
          clear hm
          go_wp2_with fail
          exact bodyPost_ret (v := .tuple #[.slice (some ⟨g7, 0, none⟩) m c7, .int .i64 0]) (by simp [results, Tryz.results30, go_sem]) rfl ⟨⟨some ⟨g7, 0, none⟩, m, c7, rfl, HMM2.out.symm, fun _ => HO.out.wri, HO.out.sl⟩, HW.out⟩
end Go.Proofs.YtffegkjlgeblbaaGreatDoor.Sec
end

section
/- The law's first call, walked: awake. -/
namespace Go.Proofs.YtffegkjlgeblbaaGreatDoor.Sec
open Go.RowKit Utf
set_option maxRecDepth 100000
set_option maxHeartbeats 4000000
set_option linter.unusedVariables false
theorem up_none : split7 hd8 = ([], 0) := split_join (l := []) rfl (by decide)
end Go.Proofs.YtffegkjlgeblbaaGreatDoor.Sec
end
