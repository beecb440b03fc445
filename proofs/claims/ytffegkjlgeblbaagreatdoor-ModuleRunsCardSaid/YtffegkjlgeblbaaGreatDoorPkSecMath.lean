/- SecPC, SecMath. -/
import Derived.Test.YtffegkjlgeblbaaGreatDoorPkSecPB
import Derived.Deep.CutRange
import Derived.Test.YtffegkjlgeblbaaGreatDoorPkSecCustom
section
/- Splitting, by the program: walked. -/
namespace Go.Proofs.YtffegkjlgeblbaaGreatDoor.Sec
open Go.RowKit Utf
set_option maxRecDepth 100000
set_option maxHeartbeats 8000000
set_option linter.unusedVariables false
/-- One round, by what stands there. -/
theorem rd1_cases {b : List Int} {k : Nat} (hb : ∀ x ∈ b, 0 ≤ x ∧ x < 256) (hk : k < b.length) :
    (∃ E : Int, E ≠ 0 ∧ rd1 b k = ((0, []), 0, E) ∧ ∀ f last out, 0 ≤ last → spl b (f + 1) k last out = ([], E)) ∨
    ∃ (x : Int) (D : List Int) (p : Nat), rd1 b k = ((x, D), (p : Int), 0) ∧ k + 1 ≤ p ∧ p ≤ b.length ∧ 0 ≤ x ∧ x ≤ 11 ∧ ∀ f last out, 0 ≤ last → spl b (f + 1) k last out = if ris x last = true then spl b f p (max last x) (out ++ [(x, D)]) else ([], 3) := by
  obtain ⟨x, hx⟩ : ∃ x, b.getD k 0 = x := ⟨_, rfl⟩
  have hx0 : 0 ≤ x := by
    rw [← hx, List.getD_eq_getElem?_getD, List.getElem?_eq_getElem hk]
    exact (hb _ (List.getElem_mem _)).1
  by_cases h11 : 11 < x
  · refine .inl ⟨3, by decide, by unfold rd1; rw [hx, if_pos h11], fun f last out _ => ?_⟩
    rw [spl_more hk hx, if_pos h11]
  · cases hr : Leb.rdl Leb.fitU 32 (b.drop (k + 1)) 0 0 with
    | short =>
      refine .inl ⟨2, by decide, by unfold rd1; rw [hx, if_neg h11, hr], fun f last out _ => ?_⟩
      rw [spl_more hk hx, if_neg h11, hr]
    | form =>
      refine .inl ⟨3, by decide, by unfold rd1; rw [hx, if_neg h11, hr], fun f last out _ => ?_⟩
      rw [spl_more hk hx, if_neg h11, hr]
    | ok v m =>
      have hle := rdl_le hk hr
      have hrd : rd1 b k = if b.length - (k + 1 + m / 7) < v then ((0, []), 0, 2) else if nf (x, (b.drop (k + 1 + m / 7)).take v) ≠ 0 then ((0, []), 0, nf (x, (b.drop (k + 1 + m / 7)).take v)) else ((x, (b.drop (k + 1 + m / 7)).take v), ((k + 1 + m / 7 + v : Nat) : Int), 0) := by
        unfold rd1
        rw [hx, if_neg h11, hr]
      have hsp : ∀ f last out, spl b (f + 1) k last out = if b.length - (k + 1 + m / 7) < v then ([], 2)
        else if x = 0 then
          (if (nm ((b.drop (k + 1 + m / 7)).take v) 0).2.2 ≠ 0 then ([], (nm ((b.drop (k + 1 + m / 7)).take v) 0).2.2)
           else spl b f (k + 1 + m / 7 + v) last (out ++ [(0, (b.drop (k + 1 + m / 7)).take v)]))
        else if x ≤ last then ([], 3)
        else spl b f (k + 1 + m / 7 + v) x (out ++ [(x, (b.drop (k + 1 + m / 7)).take v)]) := by
        intro f last out
        rw [spl_more hk hx, if_neg h11, hr]
      clear hr
      revert hrd hsp
      generalize hp : k + 1 + m / 7 = p at hle ⊢
      generalize (b.drop p).take v = D
      intro hrd hsp
      by_cases hv : b.length - p < v
      · exact .inl ⟨2, by decide, by rw [hrd, if_pos hv], fun f last out _ => by rw [hsp, if_pos hv]⟩
      · rw [if_neg hv] at hrd
        by_cases hz : x = 0
        · have hnf : nf (x, D) = (nm D 0).2.2 := by unfold nf; rw [if_pos hz]
          by_cases hn : (nm D 0).2.2 ≠ 0
          · refine .inl ⟨_, hn, by rw [hrd, hnf, if_pos hn], fun f last out _ => ?_⟩
            rw [hsp, if_neg hv, if_pos hz, if_pos hn]
          · refine .inr ⟨x, D, p + v, by rw [hrd, hnf, if_neg hn], by omega, by omega, hx0, by omega, fun f last out h0 => ?_⟩
            rw [hsp, if_neg hv, if_pos hz, if_neg hn, if_pos (by unfold ris; rw [hz]; rfl), hz, show max last 0 = last from by omega]
        · have hnf : nf (x, D) = 0 := by unfold nf; rw [if_neg hz]
          refine .inr ⟨x, D, p + v, by rw [hrd, hnf, if_neg (by simp)], by omega, by omega, hx0, by omega, fun f last out h0 => ?_⟩
          rw [hsp, if_neg hv, if_neg hz]
          have hzz : (x == 0) = false := by simpa using hz
          by_cases hl : x ≤ last
          · rw [if_pos hl, if_neg (by unfold ris; rw [hzz]; simp; omega)]
          · rw [if_neg hl, if_pos (by unfold ris; rw [hzz]; simp; omega), show max last x = x from by omega]
theorem split_hf {b : List Int} (h : hf b ≠ 0) : split7 b = ([], hf b) := by
  unfold hf at h ⊢
  unfold split7
  split
  · rfl
  · split
    · rfl
    · split
      · rfl
      · rename_i h1 h2 h3
        rw [if_neg h1, if_neg h2, if_neg h3] at h
        exact absurd rfl h
theorem hf_zero {b : List Int} (h : hf b = 0) : b.length ≤ 65536 ∧ 8 ≤ b.length ∧ split7 b = spl b 65537 8 0 [] := by
  unfold hf at h
  unfold split7
  split at h
  · cases h
  · split at h
    · cases h
    · split at h
      · cases h
      · rename_i h1 h2 h3
        refine ⟨by omega, by omega, ?_⟩
        rw [if_neg h1, if_neg h2, if_neg h3]
theorem psplit_no {A : Option Addr} {n c : Nat} {b : List Int} {w : World} (hn : b.length = n) (hs : Sl w (.slice A n c) b) (hb : ∀ x ∈ b, 0 ≤ x ∧ x < 256) (h : hf b ≠ 0) : Calls Tryz.prog 28 #[.slice A n c] w (STold (split7 b) w) := by
  have HH := Lib.hid (phead_any hn hs hb)
  rw [split_hf h]
  obtain ⟨E, hE⟩ : ∃ E, hf b = E := ⟨_, rfl⟩
  rw [hE] at h HH ⊢
  have hE1 : (E != 0) = true := by simpa using h
  clear hs hb h hE
  go_enter Tryz.func28, Tryz.ntmps28
  go_wp2_with fail
  refine HH.out.mono ?_
  rintro en w1 ⟨rfl, hb1⟩
  have HB1 := Lib.hid hb1
  clear hb1
  go_wp2_with fail
  exact bodyPost_ret (v := .tuple #[.slice none 0 0, .int .i64 E]) (by simp [results, Tryz.results28, go_sem]) rfl ⟨_, [], rfl, ScRow.nil _, rfl, HB1.out⟩
theorem psplit_go {g off n c : Nat} {b : List Int} {w : World} (hn : b.length = n) (hs : Sl w (.slice (some ⟨g, off, none⟩) n c) b) (hb : ∀ x ∈ b, 0 ≤ x ∧ x < 256) (hc : n ≤ c) (hc9 : c ≤ 9223372036854775807) (hh : hf b = 0) :
    Calls Tryz.prog 28 #[.slice (some ⟨g, off, none⟩) n c] w (STold (split7 b) w) := by
  have HN := Lib.hid hn
  obtain ⟨h1, h2, h3⟩ := hf_zero hh
  rw [hn] at h1 h2
  obtain ⟨R, hR⟩ : ∃ R, spl b 65537 8 0 [] = R := ⟨_, rfl⟩
  rw [h3, hR]
  have HRR := Lib.hid hR
  have HS := Lib.hid hs
  have HBB := Lib.hid hb
  have HH := Lib.hid (phead_any hn hs hb)
  rw [hh] at HH
  have hw8 : IntKind.i64.wrap ((n : Int) - 8) = (n : Int) - 8 := IntWalk.i64_in _ (by omega)
  clear hn hs hb hR h3 hh
  go_enter Tryz.func28, Tryz.ntmps28
  go_wp2_with fail
  refine HH.out.mono ?_
  rintro en w1 ⟨rfl, hb1⟩
  have HBX := Lib.hid hb1
  clear hb1
  go_wp2_with fail
  go_loopw [5, 6, 7, 19] (fun o at' la i' wr => ∃ (f k i : Nat) (last : Int) (L : List (Sct × Value)), la = .int .i64 last ∧ at' = .int .i64 (k : Int) ∧ i' = .int .i64 (i : Int) ∧ 8 + i ≤ k ∧ SMid 54 w b n R wr f k last o L) (fun _ _ _ i' _ => n - (intOf i').toNat)
  case atStart => exact ⟨65537, 8, 0, 0, [], rfl, rfl, by go_num, by omega, ⟨HRR.out, by omega, h2, by decide, by decide, ownS_nil _ _ _, by simp, by simp, HBX.out⟩⟩
  case round =>
    obtain ⟨f, k, i, last, L, rfl, rfl, rfl, hik, hm⟩ := hrel
    have HM := Lib.hid hm
    have hk0 : k ≤ n := hm.kle
    have hf0 : n < f + k := hm.f
    clear hm
    have HBL := Lib.hid HM.out.below
    by_cases hil : i < n - 8
    · have t1 : decide ((i : Int) < (n : Int) - 8) = true := decide_eq_true (by omega)
      by_cases hlt : k < n
      · have t2 : ((k : Int) == (n : Int)) = false := by simp; omega
        have t2' : (k == n) = false := by simp; omega
        obtain ⟨f, rfl⟩ : ∃ f', f = f' + 1 := ⟨f - 1, by omega⟩
        have HR : Hid (Calls Tryz.prog 64 #[.slice (some ⟨g, off, none⟩) n c, .int .i64 (k : Int)] wr (RdTold wr (rd1 b k))) := Lib.hid (pread_any HN.out (HS.out.keep HBL.out) HBB.out h1 hc hc9 hlt)
        rcases rd1_cases HBB.out (k := k) (by rw [HN.out]; exact hlt) with ⟨E, hE, e1, e2⟩ | ⟨x, D, p, e1, p1, p2, x0, x11, e2⟩
        · rw [e1] at HR
          have HV : Hid (R = ([], E)) := Lib.hid (by rw [← HM.out.r]; exact e2 _ _ _ HM.out.lo)
          have hE1 : (E != 0) = true := by simpa using hE
          clear e1 e2 hE
          go_wp2_with fail
          refine HR.out.mono ?_
          rintro en w1 ⟨⟨g2, n2, c2, rfl, _⟩, hb1⟩
          have HB1 := Lib.hid (HBL.out.trans (hb1.mono HBL.out.size))
          clear hb1
          go_wp2_with fail
          exact bodyPost_ret (v := .tuple #[.slice none 0 0, .int .i64 E]) (by simp [results, Tryz.results28, go_sem]) rfl ⟨_, [], by rw [HV.out], ScRow.nil _, by rw [HV.out]; rfl, by
            repeat (first | exact HB1.out | refine Below.setCell ?_ (by have := HB1.out.size; simp; omega) _ | refine Below.alloc ?_ HB1.out.size _)⟩
        · rw [e1] at HR
          have hp2 : p ≤ n := by rw [← HN.out]; exact p2
          have HQ : Hid (R = if ris x last = true then spl b f p (max last x) (scL L ++ [(x, D)]) else ([], 3)) := Lib.hid (by rw [← HM.out.r]; exact e2 _ _ _ HM.out.lo)
          have hlo : 0 ≤ last := HM.out.lo
          have hhi : last ≤ 11 := HM.out.hi
          obtain ⟨mx, hmx⟩ : ∃ mx, max last x = mx := ⟨_, rfl⟩
          have hm0 : 0 ≤ mx := by omega
          have hm11 : mx ≤ 11 := by omega
          rw [hmx] at HQ
          have hmi : (if last < x then x else last) = mx := by rw [← hmx]; split <;> omega
          clear e1 e2 p2
          go_wp2_with fail
          refine HR.out.mono ?_
          rintro en w1 ⟨⟨g2, n2, c2, rfl, hd⟩, hb1⟩
          have HBr1 := Lib.hid hb1
          have HB1 := Lib.hid (HBL.out.trans (hb1.mono HBL.out.size))
          have HD1 : Hid (Dat w1 w.heap.size ((x, D), .slice g2 n2 c2)) := Lib.hid ⟨own_low hd.1 HBL.out.size, hd.2⟩
          clear hd hb1
          have HA1 := Lib.hid ((Below.refl w1.heap.size w1).alloc (Nat.le_refl _) (.cells #[.int .i64 x, .slice g2 n2 c2] 54))
          have HB2 := Lib.hid (HB1.out.trans (HA1.out.mono HB1.out.size))
          have HBr2 := Lib.hid (HBr1.out.trans (HA1.out.mono HBr1.out.size))
          have HRW : Hid (OwnS 54 (w1.alloc (.cells #[.int .i64 x, .slice g2 n2 c2] 54)) w.heap.size u5 L) := Lib.hid (own_keep HM.out.row HBr2.out)
          have HD2 : Hid (Dat (w1.alloc (.cells #[.int .i64 x, .slice g2 n2 c2] 54)) w.heap.size ((x, D), .slice g2 n2 c2)) := Lib.hid ⟨own_keep HD1.out.1 HA1.out, HD1.out.2⟩
          have HLL : Hid (L.length ≤ k) := Lib.hid HM.out.len
          go_wp2_with fail
          refine (prises_any x last _).mono ?_
          rintro en w2 ⟨rfl, rfl⟩
          cases hrs : ris x last with
          | false =>
            have HV : Hid (R = ([], 3)) := Lib.hid (by rw [HQ.out, hrs]; rfl)
            go_wp2_with fail
            exact bodyPost_ret (v := .tuple #[.slice none 0 0, .int .i64 3]) (by simp [results, Tryz.results28, go_sem]) rfl ⟨_, [], by rw [HV.out], ScRow.nil _, by rw [HV.out]; rfl, HB2.out⟩
          | true =>
            rw [hrs, if_pos rfl] at HQ
            have HNE : Hid (some w1.heap.size ≠ u5.ownBlock) := Lib.hid fun e => by
              have h1 := (World.ownsRow.lt HM.out.row _ e.symm).2
              have h2 := HBr1.out.size
              omega
            go_wp2_with (at_builtin; refine stop_ ?_)
            refine Lib.hid ?_
            refine wp_oneS 54 50 Tryz.underlying50 psect_info _ rfl (.tmp 40) (.tmp 42) rfl w.heap.size u5 L ((x, D), .slice g2 n2 c2) ⟨_, _, _, rfl⟩ rfl HRW.out (by rw [size_new1]; rfl) ?_ ?_ ?_
            focus (have := HLL.out; omega)
            focus (exact HB2.out.size)
            intro v3 w3 ho3 hb3 hk3
            have hd3 : w3.heap[w1.heap.size]? = some (.cells #[.int .i64 x, .slice g2 n2 c2] 54) := (hk3 _ (by rw [size_new1]; omega) HNE.out).trans (heap_new w1 _)
            have q0 : w3.cell? ⟨w1.heap.size, 0, none⟩ = some (.int .i64 x) := (cells_at hd3 0).1
            have HO3 := Lib.hid ho3
            have HO4 : Hid (OwnS 54 w3.drew w.heap.size v3 (L ++ [((x, D), .slice g2 n2 c2)])) := Lib.hid (own_keep HO3.out (drewB w3))
            have HB4 : Hid (Below w.heap.size (w1.alloc (.cells #[.int .i64 x, .slice g2 n2 c2] 54)) w3.drew) := Lib.hid (hb3.trans ⟨rfl, rfl, rfl, Nat.le_refl _, fun _ _ => rfl⟩)
            have HK4 : Hid (∀ k, k < (w1.alloc (.cells #[.int .i64 x, .slice g2 n2 c2] 54)).heap.size → some k ≠ u5.ownBlock → w3.drew.heap[k]? = (w1.alloc (.cells #[.int .i64 x, .slice g2 n2 c2] 54)).heap[k]?) := Lib.hid hk3
            have hwi : IntKind.i64.wrap ((i : Int) + 1) = (i : Int) + 1 := IntWalk.i64_in _ (by omega)
            clear ho3 hb3 hk3 hd3
            have HMI := Lib.hid hmi
            clear hmi
            go_wp2_with fail
            go_region
            go_wp2_with fail
            go_roundw
            case rel => exact ⟨f, p, i + 1, mx, L ++ [((x, D), .slice g2 n2 c2)], by rw [HMI.out], by go_num, by go_num, by omega, SMid.nextD (by decide) HM.out HRW.out HD2.out HBr2.out HB2.out HO4.out HB4.out HK4.out (by rw [scL_one]; exact HQ.out.symm) (by omega) hp2 hm0 hm11 p1⟩
            case measure => simp [intOf]; omega
      · have hkn : k = n := by omega
        subst hkn
        have HV : Hid (R = (scL L, 0)) := Lib.hid (by
          rw [← HM.out.r]
          obtain ⟨f, rfl⟩ : ∃ f', f = f' + 1 := ⟨f - 1, by omega⟩
          rw [spl, if_pos (by rw [HN.out]; exact Nat.le_refl _)])
        have t2 : ((k : Int) == (k : Int)) = true := by simp
        go_wp2_with fail
        exact bodyPost_ret (v := .tuple #[u5, .int .i64 0]) (by simp [results, Tryz.results28, go_sem]) rfl ⟨u5, L, by rw [HV.out], OwnS.row HM.out.row (fun q hq => (HM.out.dat q hq).ok), by rw [HV.out], HBL.out⟩
    · have hkn : k = n := by omega
      subst hkn
      have t1 : decide ((i : Int) < (k : Int) - 8) = false := decide_eq_false (by omega)
      have HV : Hid (R = (scL L, 0)) := Lib.hid (by
        rw [← HM.out.r]
        obtain ⟨f, rfl⟩ : ∃ f', f = f' + 1 := ⟨f - 1, by omega⟩
        rw [spl, if_pos (by rw [HN.out]; exact Nat.le_refl _)])
      go_wp2_with fail
      exact bodyPost_ret (v := .tuple #[u5, .int .i64 0]) (by simp [results, Tryz.results28, go_sem]) rfl ⟨u5, L, by rw [HV.out], OwnS.row HM.out.row (fun q hq => (HM.out.dat q hq).ok), by rw [HV.out], HBL.out⟩
theorem psplit_any {v : Value} {b : List Int} {w : World} (hs : Sl w v b) (hb : ∀ x ∈ b, 0 ≤ x ∧ x < 256) : Calls Tryz.prog 28 #[v] w (STold (split7 b) w) := by
  obtain ⟨A, c, e1, h2, h3, h4⟩ := id hs
  subst e1
  by_cases hh : hf b = 0
  · obtain ⟨g, off, rfl, _⟩ := h4 (fun e => by have := (hf_zero hh).2.1; rw [e] at this; simp at this)
    exact psplit_go rfl hs hb h2 h3 hh
  · exact psplit_no rfl hs hb hh
end Go.Proofs.YtffegkjlgeblbaaGreatDoor.Sec
end

section
/- What sections are laid as, and what is split of it: plain. -/
namespace Go.Proofs.YtffegkjlgeblbaaGreatDoor.Sec
open Go.RowKit Utf
set_option maxRecDepth 100000
set_option linter.unusedVariables false
/-- May a section stand behind ones whose greatest ID is 'last'? -/
noncomputable def may1 (last : Int) (p : Sct) : Bool := decide (0 ≤ p.1) && (decide (p.1 ≤ 11) && (bif p.1 == 0 then (nm p.2 0).2.2 == 0 else decide (last < p.1)))
noncomputable def mayb : Int → List Sct → Bool
  | _, [] => true
  | last, p :: l => may1 last p && mayb (max last p.1) l
def secB (p : Sct) : List Int := p.1 :: (Leb.uB p.2.length ++ p.2)
def secsB (l : List Sct) : List Int := l.flatMap secB
/-- What Join tells. -/
noncomputable def join7 (l : List Sct) : List Int × Int := if mayb 0 l = false then ([], 1) else if 65536 < 8 + (secsB l).length then ([], 4) else (hd8 ++ secsB l, 0)
theorem secsB_cons (p : Sct) (l : List Sct) : secsB (p :: l) = p.1 :: (Leb.uB p.2.length ++ (p.2 ++ secsB l)) := by simp [secsB, secB]
theorem secsB_len (p : Sct) (l : List Sct) : (secsB (p :: l)).length = 1 + Leb.lenU p.2.length + p.2.length + (secsB l).length := by
  rw [secsB_cons, List.length_cons, List.length_append, List.length_append, Leb.uB_len]
  omega
theorem may1_zero {last : Int} {p : Sct} (h : may1 last p = true) (h0 : p.1 = 0) : (nm p.2 0).2.2 = 0 := by
  unfold may1 at h
  simp only [Bool.and_eq_true] at h
  have := h.2.2
  rw [h0] at this
  simpa using this
theorem may1_in {last : Int} {p : Sct} (h : may1 last p = true) : 0 ≤ p.1 ∧ p.1 ≤ 11 := by
  unfold may1 at h
  simp only [Bool.and_eq_true, decide_eq_true_eq] at h
  exact ⟨h.1, h.2.1⟩
theorem may1_lt {last : Int} {p : Sct} (h : may1 last p = true) (h0 : p.1 ≠ 0) : last < p.1 := by
  unfold may1 at h
  simp only [Bool.and_eq_true] at h
  have := h.2.2
  rw [show (p.1 == 0) = false from by simpa using h0] at this
  simpa using this
theorem may1_mk {last x : Int} {D : List Int} (h1 : 0 < x) (h2 : x ≤ 11) (h3 : last < x) : may1 last (x, D) = true := by
  unfold may1
  rw [show (x == 0) = false from by simp; omega]
  simp
  omega
theorem may_cons {last : Int} {p : Sct} {l : List Sct} (h : mayb last (p :: l) = true) : may1 last p = true ∧ mayb (max last p.1) l = true := by
  rw [mayb, Bool.and_eq_true] at h
  exact h
/-- What is ahead of the round: the ID, the size, the bytes. -/
theorem at_secs {b : List Int} {k : Nat} {x : Int} {U T : List Int} (h : b.drop k = x :: (U ++ T)) : k < b.length ∧ b.getD k 0 = x ∧ b.drop (k + 1) = U ++ T ∧ b.drop (k + 1 + U.length) = T ∧ b.length = k + 1 + U.length + T.length := by
  have hk : k < b.length := by
    by_cases hk : k < b.length
    · exact hk
    · rw [List.drop_eq_nil_of_le (by omega)] at h; cases h
  have h1 : b.drop (k + 1) = U ++ T := by
    rw [← List.drop_drop, h]
    rfl
  have h2 : b.drop (k + 1 + U.length) = T := by rw [← List.drop_drop, h1, List.drop_left]
  refine ⟨hk, ?_, h1, h2, ?_⟩
  · rw [List.drop_eq_getElem_cons hk] at h
    rw [List.getD_eq_getElem?_getD, List.getElem?_eq_getElem hk]
    exact (List.cons.inj h).1
  · have e1 := congrArg List.length h
    rw [List.length_drop, List.length_cons, List.length_append] at e1
    omega
theorem spl_secs : ∀ (l : List Sct) (b : List Int) (f k : Nat) (last : Int) (out : List Sct), b.length ≤ 65536 → b.drop k = secsB l → mayb last l = true → 0 ≤ last → l.length < f → spl b f k last out = (out ++ l, 0)
  | [], b, f + 1, k, last, out, hb, hd, _, _, _ => by
    have : b.length ≤ k := by
      have e := congrArg List.length hd
      rw [List.length_drop] at e
      simp [secsB] at e
      omega
    rw [spl, if_pos this, List.append_nil]
  | p :: l, b, f + 1, k, last, out, hb, hd, hm, h0, hf => by
    obtain ⟨m1, m2⟩ := may_cons hm
    obtain ⟨i1, i2⟩ := may1_in m1
    rw [secsB_cons] at hd
    obtain ⟨hk, hx, d1, d2, hl⟩ := at_secs hd
    rw [spl_more hk hx, if_neg (by omega), d1]
    have hs : p.2.length < 4294967296 := by rw [List.length_append] at hl; omega
    rw [Typ.back32 hs]
    show (if b.length - (k + 1 + 7 * Leb.lenU p.2.length / 7) < p.2.length then _ else _) = _
    rw [show 7 * Leb.lenU p.2.length / 7 = (Leb.uB p.2.length).length from by rw [Leb.uB_len]; omega, d2, if_neg (by rw [hl, List.length_append]; omega), List.take_left]
    rw [List.length_cons] at hf
    have hd' : b.drop (k + 1 + (Leb.uB p.2.length).length + p.2.length) = secsB l := by rw [← List.drop_drop, d2, List.drop_left]
    by_cases e0 : p.1 = 0
    · rw [if_pos e0, if_neg (by rw [may1_zero m1 e0]; decide), spl_secs l b f _ last _ hb hd' (by rw [e0, show max last 0 = last from by omega] at m2; exact m2) h0 (by omega), List.append_assoc]
      rw [show (0, p.2) = p from by rw [← e0]]
      rfl
    · have := may1_lt m1 e0
      rw [if_neg e0, if_neg (by omega), spl_secs l b f _ p.1 _ hb hd' (by rw [show max last p.1 = p.1 from by omega] at m2; exact m2) (by omega) (by omega), List.append_assoc]
      rfl
theorem take8 (x : List Int) : (hd8 ++ x).take 8 = hd8 := rfl
theorem drop8 (x : List Int) : (hd8 ++ x).drop 8 = x := rfl
theorem secs_long : ∀ (l : List Sct), 2 * l.length ≤ (secsB l).length
  | [] => Nat.le_refl _
  | p :: l => by
    have := secs_long l
    have := Leb.lenU_pos p.2.length
    rw [secsB_len, List.length_cons]
    omega
theorem split_join {l : List Sct} (hm : mayb 0 l = true) (hl : 8 + (secsB l).length ≤ 65536) : split7 (hd8 ++ secsB l) = (l, 0) := by
  have h8 : hd8.length = 8 := rfl
  have hlong := secs_long l
  unfold split7
  rw [if_neg (by rw [List.length_append]; omega), if_neg (by rw [List.length_append]; omega), if_neg (by rw [take8]; simp),
    spl_secs l _ _ 8 0 [] (by rw [List.length_append]; omega) (drop8 _) hm (by omega) (by omega)]
  rfl
theorem secs_app (a b : List Sct) : secsB (a ++ b) = secsB a ++ secsB b := by simp [secsB]
end Go.Proofs.YtffegkjlgeblbaaGreatDoor.Sec
end
