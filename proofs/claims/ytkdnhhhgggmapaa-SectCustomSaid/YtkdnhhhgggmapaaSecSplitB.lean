/- Splitting, by the document, where the head is a module's: walked. -/
import Derived.Test.YtkdnhhhgggmapaaSecSplit
import Derived.Deep.CutRange
namespace Go.Proofs.Ytkdnhhhgggmapaa.Sec
open Go.RowKit Utf
set_option maxRecDepth 100000
set_option maxHeartbeats 8000000
set_option linter.unusedVariables false
theorem own_stay {w w' : World} {B e s n : Nat} {v : Value} {xs : List Value} (h : w.ownsRow B e s v n xs) (hk : ∀ k, v.ownBlock = some k → w'.heap[k]? = w.heap[k]?) : w'.ownsRow B e s v n xs := by
  obtain ⟨h1, h2⟩ := h
  refine ⟨h1, ?_⟩
  rcases h2 with h2 | ⟨g, cap, cur, hv, hB, hc, hr⟩
  · exact .inl h2
  · exact .inr ⟨g, cap, cur, hv, hB, by rw [hk g (by rw [hv]; rfl)]; exact hc, hr⟩
theorem own_type {w : World} {B e s n : Nat} {v : Value} {xs : List Value} (h : w.ownsRow B e s v n xs) {k : Nat} (hk : v.ownBlock = some k) : ∃ cur, w.heap[k]? = some (.cells cur e (0, 0)) := by
  obtain ⟨_, ⟨h2, _⟩ | ⟨g, cap, cur, hv, hB, hc, _⟩⟩ := h
  · rw [h2] at hk; cases hk
  · rw [hv] at hk
    obtain rfl : g = k := by simpa [Value.ownBlock] using hk
    exact ⟨cur, hc⟩
theorem own_beside {w w' : World} {B e s n B' e' s' n' : Nat} {v v' : Value} {xs xs' : List Value} (h : w.ownsRow B e s v n xs) (h' : w.ownsRow B' e' s' v' n' xs') (hne : e ≠ e') (hk : ∀ k, k < w.heap.size → some k ≠ v'.ownBlock → w'.heap[k]? = w.heap[k]?) : w'.ownsRow B e s v n xs :=
  own_stay h fun k hkk => hk k (World.ownsRow.lt h k hkk).2 fun e1 => by
    obtain ⟨cur, h1⟩ := own_type h hkk
    obtain ⟨cur', h2⟩ := own_type h' e1.symm
    rw [h1] at h2
    simp only [Option.some.injEq, Obj.cells.injEq] at h2
    exact hne h2.2.1
theorem own_low {w : World} {B B' e s n : Nat} {v : Value} {xs : List Value} (h : w.ownsRow B e s v n xs) (hB : B' ≤ B) : w.ownsRow B' e s v n xs := by
  obtain ⟨h1, h2⟩ := h
  refine ⟨h1, ?_⟩
  rcases h2 with h2 | ⟨g, cap, cur, hv, hB, hr⟩
  · exact .inl h2
  · exact .inr ⟨g, cap, cur, hv, by omega, hr⟩
/-- Bytes of the call's own. -/
def Dat (w : World) (B : Nat) (p : Sct × Value) : Prop := w.ownsRow B 5 1 p.2 p.1.2.length (Leb.vb p.1.2) ∧ ∀ x ∈ p.1.2, 0 ≤ x ∧ x < 256
theorem Dat.ok {w : World} {B : Nat} {p : Sct × Value} (h : Dat w B p) : ScOk w p := by
  refine ⟨?_, h.2⟩
  obtain ⟨h1, ⟨hv, hl⟩ | ⟨g, cap, cur, hv, hB, hc, hle, hm, hsz, ht⟩⟩ := id h.1
  · rw [hv]
    have : p.1.2 = [] := List.length_eq_zero_iff.1 hl
    rw [this]
    exact ⟨none, 0, rfl, Nat.le_refl _, by omega, fun h => absurd rfl h⟩
  · refine ⟨_, cap, hv, hle, by unfold maxLen at hm; omega, fun h0 => ⟨g, 0, rfl, (Array.getElem?_eq_some_iff.1 hc).1, rfl, fun j hj => ?_⟩⟩
    have := World.ownsRow.cells h.1 (g := g) (by rw [hv]; rfl) j (.int .u8 (p.1.2.getD j 0)) (by unfold Leb.vb; rw [List.getElem?_map, List.getElem?_eq_getElem hj, List.getD_eq_getElem?_getD, List.getElem?_eq_getElem hj]; rfl)
    rw [s_plain] at this
    exact this
/-- What stands between two rounds. -/
structure SMid (e : TypeId) (w : World) (b : List Int) (n : Nat) (R : List Sct × Int) (wr : World) (f k : Nat) (last : Int) (vL : Value) (L : List (Sct × Value)) : Prop where
  r : spl b f k last (scL L) = R
  f : n < f + k
  kle : k ≤ n
  lo : 0 ≤ last
  hi : last ≤ 11
  row : OwnS e wr w.heap.size vL L
  dat : ∀ p ∈ L, Dat wr w.heap.size p
  len : L.length ≤ k
  below : Below w.heap.size w wr
theorem rdl_le {k : Nat} {b : List Int} {v m : Nat} (hk : k < b.length) (h : Leb.rdl Leb.fitU 32 (b.drop (k + 1)) 0 0 = .ok v m) : k + 1 + m / 7 ≤ b.length := by
  have := rdl_len _ _ _ _ _ h
  rw [List.length_drop] at this
  omega
theorem drop_byt {w : World} {g off c n p v : Nat} {b : List Int} (h : Sl w (.slice (some ⟨g, off, none⟩) n c) b) : Leb.Byt w w.heap.size (some ⟨g, off + p, none⟩) ((b.drop p).take v) := by
  intro h0
  obtain ⟨A, c', h1, h2, h3, h4⟩ := h
  injection h1 with e1 e2 e3
  subst e1 e3
  obtain ⟨g', off', e, hB⟩ := h4 (fun e => by rw [e] at h0; simp at h0)
  simp only [Option.some.injEq, Addr.mk.injEq, and_true] at e
  obtain ⟨rfl, rfl⟩ := e
  refine ⟨_, rfl, hB.1, fun j u hu => ?_⟩
  unfold Leb.vb at hu
  rw [List.getElem?_map, List.getElem?_take] at hu
  split at hu
  · rw [List.getElem?_drop] at hu
    cases hq : b[p + j]? with
    | none => rw [hq] at hu; cases hu
    | some y =>
      rw [hq] at hu
      have hpj := (List.getElem?_eq_some_iff.1 hq).1
      have := hB.2.2 (p + j) hpj
      rw [List.getD_eq_getElem?_getD, hq] at this
      rw [s_plain, show off + p + j = off + (p + j) from by omega, this]
      exact hu
  · cases hu
theorem spl_more {b : List Int} {k f : Nat} {last x : Int} {out : List Sct} (hk : k < b.length) (hx : b.getD k 0 = x) : spl b (f + 1) k last out = if 11 < x then ([], 3)
    else match Leb.rdl Leb.fitU 32 (b.drop (k + 1)) 0 0 with
      | .short => ([], 2)
      | .form => ([], 3)
      | .ok v m =>
        if b.length - (k + 1 + m / 7) < v then ([], 2)
        else if x = 0 then
          (if (nm ((b.drop (k + 1 + m / 7)).take v) 0).2.2 ≠ 0 then ([], (nm ((b.drop (k + 1 + m / 7)).take v) 0).2.2)
           else spl b f (k + 1 + m / 7 + v) last (out ++ [(0, (b.drop (k + 1 + m / 7)).take v)]))
        else if x ≤ last then ([], 3)
        else spl b f (k + 1 + m / 7 + v) x (out ++ [(x, (b.drop (k + 1 + m / 7)).take v)]) := by
  rw [spl, if_neg (by omega), hx]
  rfl
theorem sl_byt {w : World} {g off c n : Nat} {b : List Int} (h : Sl w (.slice (some ⟨g, off, none⟩) n c) b) : Leb.Byt w w.heap.size (some ⟨g, off, none⟩) b := by
  have := drop_byt (p := 0) (v := b.length) h
  simpa using this
theorem sl_cell {w : World} {g off c n k : Nat} {b : List Int} (h : Sl w (.slice (some ⟨g, off, none⟩) n c) b) (hk : k < b.length) : w.cell? ⟨g, off + k, none⟩ = some (.int .u8 (b.getD k 0)) := by
  obtain ⟨A, c', h1, h2, h3, h4⟩ := h
  injection h1 with e1 e2 e3
  subst e1 e3
  obtain ⟨g', off', e, hB⟩ := h4 (fun e => by rw [e] at hk; simp at hk)
  simp only [Option.some.injEq, Addr.mk.injEq, and_true] at e
  obtain ⟨rfl, rfl⟩ := e
  exact hB.2.2 k hk
theorem scL_one (L : List (Sct × Value)) (q : Sct × Value) : scL (L ++ [q]) = scL L ++ [q.1] := by simp [scL]
theorem dat_beside {e : TypeId} (he : 5 ≠ e) {w w' : World} {B : Nat} {u4 : Value} {L : List (Sct × Value)} {q : Sct × Value} (h : Dat w B q) (hr : OwnS e w B u4 L) (hk : ∀ k, k < w.heap.size → some k ≠ u4.ownBlock → w'.heap[k]? = w.heap[k]?) : Dat w' B q :=
  ⟨own_beside h.1 hr he hk, h.2⟩
theorem SMid.nextD {e : TypeId} (he : 5 ≠ e) {w wr w2 w3 : World} {b : List Int} {n f k k' : Nat} {R : List Sct × Int} {last last' x : Int} {u4 v3 V : Value} {L : List (Sct × Value)} {D : List Int} (h : SMid e w b n R wr (f + 1) k last u4 L) (hr : OwnS e w2 w.heap.size u4 L)
    (ho : Dat w2 w.heap.size ((x, D), V)) (hb2 : Below wr.heap.size wr w2) (hbw : Below w.heap.size w w2) (ho3 : OwnS e w3 w.heap.size v3 (L ++ [((x, D), V)])) (hb3 : Below w.heap.size w2 w3) (hk : ∀ k, k < w2.heap.size → some k ≠ u4.ownBlock → w3.heap[k]? = w2.heap[k]?)
    (hs : spl b f k' last' (scL (L ++ [((x, D), V)])) = R) (hf : n < f + k') (hk' : k' ≤ n) (hlo : 0 ≤ last') (hhi : last' ≤ 11) (hkk : k + 1 ≤ k') : SMid e w b n R w3 f k' last' v3 (L ++ [((x, D), V)]) := by
  refine ⟨hs, hf, hk', hlo, hhi, ho3, fun q hq => ?_, ?_, hbw.trans hb3⟩
  · rcases List.mem_append.1 hq with hq | hq
    · exact dat_beside he (w := w2) ⟨own_keep (h.dat q hq).1 hb2, (h.dat q hq).2⟩ hr hk
    · obtain rfl := List.mem_singleton.1 hq
      exact dat_beside he (w := w2) ho hr hk
  · have := h.len
    rw [List.length_append]
    simp only [List.length_cons, List.length_nil]
    omega
theorem SMid.next {e : TypeId} (he : 5 ≠ e) {w wr w2 w3 : World} {b : List Int} {n f k k' : Nat} {R : List Sct × Int} {last last' x : Int} {u4 v3 V : Value} {L : List (Sct × Value)} {D : List Int} (h : SMid e w b n R wr (f + 1) k last u4 L) (hr : OwnS e w2 w.heap.size u4 L)
    (ho : Leb.Own w2 w.heap.size V D) (hb2 : Below wr.heap.size wr w2) (hbw : Below w.heap.size w w2) (ho3 : OwnS e w3 w.heap.size v3 (L ++ [((x, D), V)])) (hb3 : Below w.heap.size w2 w3) (hk : ∀ k, k < w2.heap.size → some k ≠ u4.ownBlock → w3.heap[k]? = w2.heap[k]?)
    (hD : ∀ y ∈ D, 0 ≤ y ∧ y < 256) (hs : spl b f k' last' (scL (L ++ [((x, D), V)])) = R) (hf : n < f + k') (hk' : k' ≤ n) (hlo : 0 ≤ last') (hhi : last' ≤ 11) (hkk : k + 1 ≤ k') : SMid e w b n R w3 f k' last' v3 (L ++ [((x, D), V)]) :=
  SMid.nextD he h hr ⟨ho.2, hD⟩ hb2 hbw ho3 hb3 hk hs hf hk' hlo hhi hkk
theorem stop_ {P : Prop} (h : Hid P) : P := h.out
theorem rsplit_go {g off n c : Nat} {b : List Int} {w : World} (hn : b.length = n) (hs : Sl w (.slice (some ⟨g, off, none⟩) n c) b) (hb : ∀ x ∈ b, 0 ≤ x ∧ x < 256) (h1 : n ≤ 65536) (h2 : 8 ≤ n) (hc : n ≤ c) (hc9 : c ≤ 9223372036854775807) (hh : b.take 8 = hd8) :
    Calls Try.prog 12 #[.slice (some ⟨g, off, none⟩) n c] w (STold (split7 b) w) := by
  have HN := Lib.hid hn
  obtain ⟨R, hR⟩ : ∃ R, spl b 65537 8 0 [] = R := ⟨_, rfl⟩
  have HV : Hid (split7 b = R) := by show _ = _; unfold split7; rw [hn, if_neg (by omega), if_neg (by omega), if_neg (by rw [hh]; simp), hR]
  rw [HV.out]
  have HRR := Lib.hid hR
  have HS := Lib.hid hs
  have HBB := Lib.hid hb
  have hst := sl_take hs (k := 8) (by omega)
  rw [hh] at hst
  have e1 : ∀ W, Below w.heap.size w W → (convert 22 9 (.slice (some ⟨g, off, none⟩) 8 c)).run Try.prog W = .ok (.string (strOfNums hd8)) W := fun W hW => sl_txt (hst.keep hW)
  have hne : ((strOfNums hd8).toList == (strOfNums hd8).toList) = true := by simp
  have HE1 := Lib.hid e1
  have t1 : decide ((65536 : Int) < (n : Int)) = false := decide_eq_false (by omega)
  have t1' : decide (65536 < n) = false := decide_eq_false (by omega)
  have t2 : decide ((n : Int) < 8) = false := decide_eq_false (by omega)
  have t2' : decide (n < 8) = false := decide_eq_false (by omega)
  have i1 : (8 : Int) ≤ (c : Int) := by omega
  have i1' : 8 ≤ c := by omega
  clear e1 hst hs hb hh hn hR HV
  go_enter Try.func12, Try.ntmps12
  go_wp2_with fail
  go_cut [26] from 21 to 26 (fun t26 wx => t26 = .bool false ∧ Below w.heap.size w wx)
  case first =>
    have e1 := HE1.out _ (drewB w)
    go_region_law (go_simp; go_at_call 25; refine (rhead_any w.drew).mono ?_; rintro en w1 ⟨⟨vh, rfl, hoh⟩, hbh⟩; obtain ⟨⟨gh, ch, hvh⟩, _⟩ := id hoh; rw [show hd8.length = 8 from rfl] at hvh; subst hvh; have HB1 := Lib.hid ((drewB w).trans hbh); have e2 : (convert 22 9 (.slice (some ⟨gh, 0, none⟩) 8 ch)).run Try.prog w1 = .ok (.string (strOfNums hd8)) w1 := sl_txt (own_sl8 hoh); have e3 := HE1.out _ HB1.out; clear hoh hbh)
    all_goals (
      go_wp2_with fail
      go_meet
      case rel => exact ⟨by first | rfl | simp, HB1.out⟩)
  case rest =>
    obtain ⟨rfl, hbx⟩ := hcut
    have HBX := Lib.hid hbx
    clear hbx hne HE1
    go_wp2_with fail
    go_loopw [4, 5, 6] (fun o la at' wr => ∃ (f k : Nat) (last : Int) (L : List (Sct × Value)), la = .int .i64 last ∧ at' = .int .i64 (k : Int) ∧ SMid 43 w b n R wr f k last o L) (fun _ _ at' _ => n - (intOf at').toNat)
    case atStart => exact ⟨65537, 8, 0, [], rfl, rfl, ⟨HRR.out, by omega, h2, by decide, by decide, ownS_nil _ _ _, by simp, by simp, HBX.out⟩⟩
    case round =>
      obtain ⟨f, k, last, L, rfl, rfl, hm⟩ := hrel
      have HM := Lib.hid hm
      have hk0 : k ≤ n := hm.kle
      have hf0 : n < f + k := hm.f
      clear hm
      by_cases hlt : k < n
      · obtain ⟨f, rfl⟩ : ∃ f', f = f' + 1 := ⟨f - 1, by omega⟩
        obtain ⟨x, hx⟩ : ∃ x, b.getD k 0 = x := ⟨_, rfl⟩
        have HBL := Lib.hid HM.out.below
        have hx1 : 0 ≤ x ∧ x < 256 := by
          rw [← hx, List.getD_eq_getElem?_getD, List.getElem?_eq_getElem (by rw [HN.out]; exact hlt)]
          exact HBB.out _ (List.getElem_mem _)
        obtain ⟨hx0, hx6⟩ := hx1
        have c1 : wr.cell? ⟨g, off + k, none⟩ = some (.int .u8 x) := by rw [← hx]; exact sl_cell (HS.out.keep HBL.out) (by rw [HN.out]; exact hlt)
        have hw0 : IntKind.i64.wrap x = x := IntWalk.i64_in _ (by omega)
        have hw1 : IntKind.i64.wrap ((k : Int) + 1) = (k : Int) + 1 := IntWalk.i64_in _ (by omega)
        have HQ : Hid (spl b (f + 1) k last (scL L) = R) := Lib.hid HM.out.r
        have HQ2 := Lib.hid (spl_more (f := f) (last := last) (out := scL L) (by rw [HN.out]; exact hlt) hx)
        have j1 : (k : Int) < (n : Int) := by omega
        have j0 : (0 : Int) ≤ (k : Int) := by omega
        by_cases hx11 : 11 < x
        · have HV : Hid (R = ([], 3)) := by show _ = _; rw [← HQ.out, HQ2.out, if_pos hx11]
          go_wp2_with fail
          exact bodyPost_ret (v := .tuple #[.slice none 0 0, .int .i64 3]) (by simp [results, Try.results12, go_sem]) rfl ⟨_, [], by rw [HV.out], ScRow.nil _, by rw [HV.out]; rfl, HBL.out⟩
        · obtain ⟨r, hr⟩ : ∃ r, Leb.rdl Leb.fitU 32 (b.drop (k + 1)) 0 0 = r := ⟨_, rfl⟩
          have HC : Hid (Calls Try.prog 26 #[.slice (some ⟨g, off, none⟩) n c, .int .i64 ((k : Int) + 1), .int .i64 32] wr (Leb.RTold wr (Leb.uV r) (Leb.uP (k + 1) r) (Leb.uE r) .u64)) := by
            have h := Leb.refReadU_is (some ⟨g, off, none⟩) c 32 (k + 1) b wr (sl_byt (HS.out.keep HBL.out)) (by rw [HN.out]; omega) (fun y hy => by have := HBB.out y hy; omega) (by omega) (by omega) (by rw [HN.out]; omega)
            rw [hr, HN.out] at h
            exact h
          cases r with
          | short =>
            have HV : Hid (R = ([], 2)) := by show _ = _; rw [← HQ.out, HQ2.out, if_neg hx11, hr]
            clear hr hx
            go_wp2_with fail
            refine HC.out.mono ?_
            rintro en w1 ⟨rfl, hb1⟩
            have HB1 := Lib.hid (HBL.out.trans (hb1.mono HBL.out.size))
            clear hb1
            simp only [Leb.uV, Leb.uP, Leb.uE]
            go_wp2_with fail
            exact bodyPost_ret (v := .tuple #[.slice none 0 0, .int .i64 2]) (by simp [results, Try.results12, go_sem]) rfl ⟨_, [], by rw [HV.out], ScRow.nil _, by rw [HV.out]; rfl, HB1.out⟩
          | form =>
            have HV : Hid (R = ([], 3)) := by show _ = _; rw [← HQ.out, HQ2.out, if_neg hx11, hr]
            clear hr hx
            go_wp2_with fail
            refine HC.out.mono ?_
            rintro en w1 ⟨rfl, hb1⟩
            have HB1 := Lib.hid (HBL.out.trans (hb1.mono HBL.out.size))
            clear hb1
            simp only [Leb.uV, Leb.uP, Leb.uE]
            go_wp2_with fail
            exact bodyPost_ret (v := .tuple #[.slice none 0 0, .int .i64 3]) (by simp [results, Try.results12, go_sem]) rfl ⟨_, [], by rw [HV.out], ScRow.nil _, by rw [HV.out]; rfl, HB1.out⟩
          | ok v m =>
            have hp0 := rdl_le (k := k) (by rw [HN.out]; exact hlt) hr
            have HR := Lib.hid hr
            rw [HN.out] at hp0
            have HQ3 : Hid ((if n - (k + 1 + m / 7) < v then ([], 2)
        else if x = 0 then
          (if (nm ((b.drop (k + 1 + m / 7)).take v) 0).2.2 ≠ 0 then ([], (nm ((b.drop (k + 1 + m / 7)).take v) 0).2.2)
           else spl b f (k + 1 + m / 7 + v) last (scL L ++ [(0, (b.drop (k + 1 + m / 7)).take v)]))
        else if x ≤ last then ([], 3)
        else spl b f (k + 1 + m / 7 + v) x (scL L ++ [(x, (b.drop (k + 1 + m / 7)).take v)])) = R) := by
              have h := HQ2.out
              rw [if_neg hx11, hr, HN.out] at h
              exact h.symm.trans HQ.out
            clear hr hx
            have HC2 : Hid (Calls Try.prog 26 #[.slice (some ⟨g, off, none⟩) n c, .int .i64 ((k : Int) + 1), .int .i64 32] wr (Leb.RTold wr (v : Int) ((k + 1 + m / 7 : Nat) : Int) 0 .u64)) := HC.out
            clear HC HQ HQ2
            have hpk : k + 1 ≤ k + 1 + m / 7 := Nat.le_add_right _ _
            revert HC2 HQ3 hp0 hpk
            generalize k + 1 + m / 7 = p
            intro hp0 HQ3 HC2 hpk
            have hu1 : IntKind.u64.wrap ((n : Int) - (p : Int)) = (n : Int) - (p : Int) := IntWalk.u64_in _ (by omega)
            have hi1 : IntKind.i64.wrap ((n : Int) - (p : Int)) = (n : Int) - (p : Int) := IntWalk.i64_in _ (by omega)
            by_cases hv : n - p < v
            · have HV : Hid (R = ([], 2)) := by show _ = _; rw [← HQ3.out, if_pos hv]
              have hvt : decide ((n : Int) - (p : Int) < (v : Int)) = true := decide_eq_true (by omega)
              go_wp2_with fail
              refine HC2.out.mono ?_
              rintro en w1 ⟨rfl, hb1⟩
              have HB1 := Lib.hid (HBL.out.trans (hb1.mono HBL.out.size))
              clear hb1
              go_wp2_with fail
              exact bodyPost_ret (v := .tuple #[.slice none 0 0, .int .i64 2]) (by simp [results, Try.results12, go_sem]) rfl ⟨_, [], by rw [HV.out], ScRow.nil _, by rw [HV.out]; rfl, HB1.out⟩
            · have hvt : decide ((n : Int) - (p : Int) < (v : Int)) = false := decide_eq_false (by omega)
              obtain ⟨D, hD⟩ : ∃ D, (b.drop p).take v = D := ⟨_, rfl⟩
              have hDl : D.length = v := by rw [← hD, List.length_take, List.length_drop, HN.out]; omega
              have hDb : ∀ y ∈ D, 0 ≤ y ∧ y < 256 := fun y hy => HBB.out y (by rw [← hD] at hy; exact List.mem_of_mem_drop (List.mem_of_mem_take hy))
              have HDL := Lib.hid hDl
              have HDB := Lib.hid hDb
              have HDA : Hid (Leb.Byt wr wr.heap.size (some ⟨g, off + p, none⟩) D) := Lib.hid (by rw [← hD]; exact drop_byt (HS.out.keep HBL.out))
              rw [hD] at HQ3
              rw [if_neg hv] at HQ3
              clear hDl hDb hD
              have hi2 : IntKind.i64.wrap (v : Int) = (v : Int) := IntWalk.i64_in _ (by omega)
              have hi3 : IntKind.i64.wrap ((p : Int) + (v : Int)) = (p : Int) + (v : Int) := IntWalk.i64_in _ (by omega)
              have hvp : p + v ≤ n := by omega
              have hD0 : v = 0 → D = [] := fun e => List.length_eq_zero_iff.1 (HDL.out.trans e)
              have HD0 := Lib.hid hD0
              clear hD0
              by_cases hz : x = 0
              · subst hz
                rw [if_pos rfl] at HQ3
                have hmx : max last 0 = last := by have := HM.out.lo; omega
                rcases Classical.em (c = p) with hcp | hcp
                · subst hcp
                  go_wp2_with fail
                  refine HC2.out.mono ?_
                  rintro en w1 ⟨rfl, hb1⟩
                  have HB1 := Lib.hid (HBL.out.trans (hb1.mono HBL.out.size))
                  have HB1r := Lib.hid hb1
                  clear hb1
                  go_wp2_with (at_builtin; refine stop_ ?_)
                  refine Lib.hid ?_
                  refine Leb.wp_bytes _ rfl (.tmp 56) (.tmp 63) rfl w1.heap.size wr.heap.size _ [] D rfl (Leb.own_none w1) (some ⟨g, off, none⟩) 0 ?_ ?_ ?_ ?_ ?_
                  focus (rw [HDL.out]; show Value.slice _ _ _ = Value.slice _ _ _; rw [Nat.add_sub_cancel_left])
                  focus (rw [HD0.out (by omega)]; exact Leb.byt_nil _ _ _)
                  focus (rw [HDL.out]; simp; omega)
                  focus (simp)
                  intro v2 w2 ho2 hb2
                  have HB12 := Lib.hid (((Below.refl w1.heap.size w1).alloc (Nat.le_refl _) (.cells #[] 5)).trans hb2)
                  have HB2 := Lib.hid (HB1.out.trans (HB12.out.mono HB1.out.size))
                  have HBr2 := Lib.hid (HB1r.out.trans (HB12.out.mono HB1r.out.size))
                  rw [List.nil_append] at ho2
                  obtain ⟨⟨g2, c2, rfl⟩, _⟩ := id ho2
                  have HO2 := Lib.hid ho2
                  have HOL := Lib.hid ho2
                  rw [HDL.out] at HO2
                  have HR2 : Hid (OwnS 43 w2 w.heap.size u4 L) := Lib.hid (own_keep HM.out.row HBr2.out)
                  have HLL : Hid (L.length ≤ k) := Lib.hid HM.out.len
                  clear ho2 hb2
                  have HNM := Lib.hid (rname_any (.slice (some ⟨g2, 0, none⟩) D.length c2) D 0 w2 HDB.out (own_sl8 HOL.out) (by rw [HDL.out]; omega))
                  obtain ⟨⟨N0, N1, E⟩, hNM⟩ : ∃ y, nm D 0 = y := ⟨_, rfl⟩
                  rw [hNM] at HQ3 HNM
                  clear hNM
                  go_wp2_with fail
                  refine HNM.out.mono ?_
                  rintro en w3' ⟨rfl, hb3'⟩
                  have HB3 := Lib.hid (HB2.out.trans (hb3'.mono HB2.out.size))
                  have HBr := Lib.hid (HBr2.out.trans (hb3'.mono HBr2.out.size))
                  have HRW : Hid (OwnS 43 w3' w.heap.size u4 L) := Lib.hid (own_keep HM.out.row HBr.out)
                  have HBW := HB3
                  have HOW : Hid (Leb.Own w3' w.heap.size (.slice (some ⟨g2, 0, none⟩) D.length c2) D) := Lib.hid ((HOL.out.keep hb3').mono HB1.out.size)
                  clear hb3'
                  by_cases hE : E = 0
                  · subst hE
                    rw [if_neg (by simp)] at HQ3
                    simp only
                    go_wp2_with (at_builtin; refine stop_ ?_)
                    refine Lib.hid ?_
                    refine wp_oneS 43 23 Try.underlying23 sect_info _ rfl (.tmp 86) (.tmp 90) rfl w.heap.size u4 L ((0, D), .slice (some ⟨g2, 0, none⟩) D.length c2) ⟨_, _, _, rfl⟩ rfl HRW.out rfl ?_ ?_ ?_
                    focus (have := HLL.out; omega)
                    focus (exact HBW.out.size)
                    intro v3 w3 ho3 hb3 hk3
                    go_wp2_with fail
                    go_roundw
                    case rel => exact ⟨f, c + v, last, L ++ [((0, D), .slice (some ⟨g2, 0, none⟩) D.length c2)], by go_num, by go_num, SMid.next (by decide) HM.out HRW.out HOW.out HBr.out HBW.out ho3 hb3 hk3 HDB.out (by rw [scL_one]; exact HQ3.out) (by omega) hvp HM.out.lo HM.out.hi (by omega)⟩
                    case measure => simp [intOf]; omega
                  · have HV : Hid (R = ([], E)) := by show _ = _; rw [← HQ3.out, if_pos (by simpa using hE)]
                    have hE1 : (E != 0) = true := by simpa using hE
                    simp only
                    go_wp2_with fail
                    exact bodyPost_ret (v := .tuple #[.slice none 0 0, .int .i64 E]) (by simp [results, Try.results12, go_sem]) rfl ⟨_, [], by rw [HV.out], ScRow.nil _, by rw [HV.out]; rfl, HB3.out⟩
                · skip
                  go_wp2_with fail
                  refine HC2.out.mono ?_
                  rintro en w1 ⟨rfl, hb1⟩
                  have HB1 := Lib.hid (HBL.out.trans (hb1.mono HBL.out.size))
                  have HB1r := Lib.hid hb1
                  clear hb1
                  go_wp2_with (at_builtin; refine stop_ ?_)
                  refine Lib.hid ?_
                  refine Leb.wp_bytes _ rfl (.tmp 56) (.tmp 63) rfl w1.heap.size wr.heap.size _ [] D rfl (Leb.own_none w1) (some ⟨g, off + p, none⟩) (c - p) ?_ ?_ ?_ ?_ ?_
                  focus (rw [HDL.out]; show Value.slice _ _ _ = Value.slice _ _ _; rw [Nat.add_sub_cancel_left])
                  focus (exact (HDA.out.keep (HB1r.out.alloc HB1r.out.size _)))
                  focus (rw [HDL.out]; simp; omega)
                  focus (simp)
                  intro v2 w2 ho2 hb2
                  have HB12 := Lib.hid (((Below.refl w1.heap.size w1).alloc (Nat.le_refl _) (.cells #[] 5)).trans hb2)
                  have HB2 := Lib.hid (HB1.out.trans (HB12.out.mono HB1.out.size))
                  have HBr2 := Lib.hid (HB1r.out.trans (HB12.out.mono HB1r.out.size))
                  rw [List.nil_append] at ho2
                  obtain ⟨⟨g2, c2, rfl⟩, _⟩ := id ho2
                  have HO2 := Lib.hid ho2
                  have HOL := Lib.hid ho2
                  rw [HDL.out] at HO2
                  have HR2 : Hid (OwnS 43 w2 w.heap.size u4 L) := Lib.hid (own_keep HM.out.row HBr2.out)
                  have HLL : Hid (L.length ≤ k) := Lib.hid HM.out.len
                  clear ho2 hb2
                  have HNM := Lib.hid (rname_any (.slice (some ⟨g2, 0, none⟩) D.length c2) D 0 w2 HDB.out (own_sl8 HOL.out) (by rw [HDL.out]; omega))
                  obtain ⟨⟨N0, N1, E⟩, hNM⟩ : ∃ y, nm D 0 = y := ⟨_, rfl⟩
                  rw [hNM] at HQ3 HNM
                  clear hNM
                  go_wp2_with fail
                  refine HNM.out.mono ?_
                  rintro en w3' ⟨rfl, hb3'⟩
                  have HB3 := Lib.hid (HB2.out.trans (hb3'.mono HB2.out.size))
                  have HBr := Lib.hid (HBr2.out.trans (hb3'.mono HBr2.out.size))
                  have HRW : Hid (OwnS 43 w3' w.heap.size u4 L) := Lib.hid (own_keep HM.out.row HBr.out)
                  have HBW := HB3
                  have HOW : Hid (Leb.Own w3' w.heap.size (.slice (some ⟨g2, 0, none⟩) D.length c2) D) := Lib.hid ((HOL.out.keep hb3').mono HB1.out.size)
                  clear hb3'
                  by_cases hE : E = 0
                  · subst hE
                    rw [if_neg (by simp)] at HQ3
                    simp only
                    go_wp2_with (at_builtin; refine stop_ ?_)
                    refine Lib.hid ?_
                    refine wp_oneS 43 23 Try.underlying23 sect_info _ rfl (.tmp 86) (.tmp 90) rfl w.heap.size u4 L ((0, D), .slice (some ⟨g2, 0, none⟩) D.length c2) ⟨_, _, _, rfl⟩ rfl HRW.out rfl ?_ ?_ ?_
                    focus (have := HLL.out; omega)
                    focus (exact HBW.out.size)
                    intro v3 w3 ho3 hb3 hk3
                    go_wp2_with fail
                    go_roundw
                    case rel => exact ⟨f, p + v, last, L ++ [((0, D), .slice (some ⟨g2, 0, none⟩) D.length c2)], by go_num, by go_num, SMid.next (by decide) HM.out HRW.out HOW.out HBr.out HBW.out ho3 hb3 hk3 HDB.out (by rw [scL_one]; exact HQ3.out) (by omega) hvp HM.out.lo HM.out.hi (by omega)⟩
                    case measure => simp [intOf]; omega
                  · have HV : Hid (R = ([], E)) := by show _ = _; rw [← HQ3.out, if_pos (by simpa using hE)]
                    have hE1 : (E != 0) = true := by simpa using hE
                    simp only
                    go_wp2_with fail
                    exact bodyPost_ret (v := .tuple #[.slice none 0 0, .int .i64 E]) (by simp [results, Try.results12, go_sem]) rfl ⟨_, [], by rw [HV.out], ScRow.nil _, by rw [HV.out]; rfl, HB3.out⟩
              · rw [if_neg hz] at HQ3
                have hz1 : (x == 0) = false := by simpa using hz
                by_cases hxl : x ≤ last
                · have HV : Hid (R = ([], 3)) := by show _ = _; rw [← HQ3.out, if_pos hxl]
                  rcases Classical.em (c = p) with hcp | hcp
                  · subst hcp
                    go_wp2_with fail
                    refine HC2.out.mono ?_
                    rintro en w1 ⟨rfl, hb1⟩
                    have HB1 := Lib.hid (HBL.out.trans (hb1.mono HBL.out.size))
                    have HB1r := Lib.hid hb1
                    clear hb1
                    go_wp2_with (at_builtin; refine stop_ ?_)
                    refine Lib.hid ?_
                    refine Leb.wp_bytes _ rfl (.tmp 56) (.tmp 63) rfl w1.heap.size wr.heap.size _ [] D rfl (Leb.own_none w1) (some ⟨g, off, none⟩) 0 ?_ ?_ ?_ ?_ ?_
                    focus (rw [HDL.out]; show Value.slice _ _ _ = Value.slice _ _ _; rw [Nat.add_sub_cancel_left])
                    focus (rw [HD0.out (by omega)]; exact Leb.byt_nil _ _ _)
                    focus (rw [HDL.out]; simp; omega)
                    focus (simp)
                    intro v2 w2 ho2 hb2
                    have HB12 := Lib.hid (((Below.refl w1.heap.size w1).alloc (Nat.le_refl _) (.cells #[] 5)).trans hb2)
                    have HB2 := Lib.hid (HB1.out.trans (HB12.out.mono HB1.out.size))
                    have HBr2 := Lib.hid (HB1r.out.trans (HB12.out.mono HB1r.out.size))
                    rw [List.nil_append] at ho2
                    obtain ⟨⟨g2, c2, rfl⟩, _⟩ := id ho2
                    have HO2 := Lib.hid ho2
                    have HOL := Lib.hid ho2
                    rw [HDL.out] at HO2
                    have HR2 : Hid (OwnS 43 w2 w.heap.size u4 L) := Lib.hid (own_keep HM.out.row HBr2.out)
                    have HLL : Hid (L.length ≤ k) := Lib.hid HM.out.len
                    clear ho2 hb2
                    go_wp2_with fail
                    all_goals exact bodyPost_ret (v := .tuple #[.slice none 0 0, .int .i64 3]) (by simp [results, Try.results12, go_sem]) rfl ⟨_, [], by rw [HV.out], ScRow.nil _, by rw [HV.out]; rfl, HB2.out⟩
                  · skip
                    go_wp2_with fail
                    refine HC2.out.mono ?_
                    rintro en w1 ⟨rfl, hb1⟩
                    have HB1 := Lib.hid (HBL.out.trans (hb1.mono HBL.out.size))
                    have HB1r := Lib.hid hb1
                    clear hb1
                    go_wp2_with (at_builtin; refine stop_ ?_)
                    refine Lib.hid ?_
                    refine Leb.wp_bytes _ rfl (.tmp 56) (.tmp 63) rfl w1.heap.size wr.heap.size _ [] D rfl (Leb.own_none w1) (some ⟨g, off + p, none⟩) (c - p) ?_ ?_ ?_ ?_ ?_
                    focus (rw [HDL.out]; show Value.slice _ _ _ = Value.slice _ _ _; rw [Nat.add_sub_cancel_left])
                    focus (exact (HDA.out.keep (HB1r.out.alloc HB1r.out.size _)))
                    focus (rw [HDL.out]; simp; omega)
                    focus (simp)
                    intro v2 w2 ho2 hb2
                    have HB12 := Lib.hid (((Below.refl w1.heap.size w1).alloc (Nat.le_refl _) (.cells #[] 5)).trans hb2)
                    have HB2 := Lib.hid (HB1.out.trans (HB12.out.mono HB1.out.size))
                    have HBr2 := Lib.hid (HB1r.out.trans (HB12.out.mono HB1r.out.size))
                    rw [List.nil_append] at ho2
                    obtain ⟨⟨g2, c2, rfl⟩, _⟩ := id ho2
                    have HO2 := Lib.hid ho2
                    have HOL := Lib.hid ho2
                    rw [HDL.out] at HO2
                    have HR2 : Hid (OwnS 43 w2 w.heap.size u4 L) := Lib.hid (own_keep HM.out.row HBr2.out)
                    have HLL : Hid (L.length ≤ k) := Lib.hid HM.out.len
                    clear ho2 hb2
                    go_wp2_with fail
                    all_goals exact bodyPost_ret (v := .tuple #[.slice none 0 0, .int .i64 3]) (by simp [results, Try.results12, go_sem]) rfl ⟨_, [], by rw [HV.out], ScRow.nil _, by rw [HV.out]; rfl, HB2.out⟩
                · rw [if_neg hxl] at HQ3
                  have hmx : max last x = x := by omega
                  rcases Classical.em (c = p) with hcp | hcp
                  · subst hcp
                    go_wp2_with fail
                    refine HC2.out.mono ?_
                    rintro en w1 ⟨rfl, hb1⟩
                    have HB1 := Lib.hid (HBL.out.trans (hb1.mono HBL.out.size))
                    have HB1r := Lib.hid hb1
                    clear hb1
                    go_wp2_with (at_builtin; refine stop_ ?_)
                    refine Lib.hid ?_
                    refine Leb.wp_bytes _ rfl (.tmp 56) (.tmp 63) rfl w1.heap.size wr.heap.size _ [] D rfl (Leb.own_none w1) (some ⟨g, off, none⟩) 0 ?_ ?_ ?_ ?_ ?_
                    focus (rw [HDL.out]; show Value.slice _ _ _ = Value.slice _ _ _; rw [Nat.add_sub_cancel_left])
                    focus (rw [HD0.out (by omega)]; exact Leb.byt_nil _ _ _)
                    focus (rw [HDL.out]; simp; omega)
                    focus (simp)
                    intro v2 w2 ho2 hb2
                    have HB12 := Lib.hid (((Below.refl w1.heap.size w1).alloc (Nat.le_refl _) (.cells #[] 5)).trans hb2)
                    have HB2 := Lib.hid (HB1.out.trans (HB12.out.mono HB1.out.size))
                    have HBr2 := Lib.hid (HB1r.out.trans (HB12.out.mono HB1r.out.size))
                    rw [List.nil_append] at ho2
                    obtain ⟨⟨g2, c2, rfl⟩, _⟩ := id ho2
                    have HO2 := Lib.hid ho2
                    have HOL := Lib.hid ho2
                    rw [HDL.out] at HO2
                    have HR2 : Hid (OwnS 43 w2 w.heap.size u4 L) := Lib.hid (own_keep HM.out.row HBr2.out)
                    have HLL : Hid (L.length ≤ k) := Lib.hid HM.out.len
                    clear ho2 hb2
                    have HRW := HR2
                    have HBW := HB2
                    have HBr := HBr2
                    have HOW : Hid (Leb.Own w2 w.heap.size (.slice (some ⟨g2, 0, none⟩) D.length c2) D) := Lib.hid (by rw [HDL.out]; exact HO2.out.mono HB1.out.size)
                    go_wp2_with (at_builtin; refine stop_ ?_)
                    refine Lib.hid ?_
                    refine wp_oneS 43 23 Try.underlying23 sect_info _ rfl (.tmp 86) (.tmp 90) rfl w.heap.size u4 L ((x, D), .slice (some ⟨g2, 0, none⟩) D.length c2) ⟨_, _, _, rfl⟩ rfl HRW.out rfl ?_ ?_ ?_
                    focus (have := HLL.out; omega)
                    focus (exact HBW.out.size)
                    intro v3 w3 ho3 hb3 hk3
                    go_wp2_with fail
                    go_roundw
                    case rel => exact ⟨f, c + v, x, L ++ [((x, D), .slice (some ⟨g2, 0, none⟩) D.length c2)], by go_num, by go_num, SMid.next (by decide) HM.out HRW.out HOW.out HBr.out HBW.out ho3 hb3 hk3 HDB.out (by rw [scL_one]; exact HQ3.out) (by omega) hvp (by omega) (by omega) (by omega)⟩
                    case measure => simp [intOf]; omega
                  · skip
                    go_wp2_with fail
                    refine HC2.out.mono ?_
                    rintro en w1 ⟨rfl, hb1⟩
                    have HB1 := Lib.hid (HBL.out.trans (hb1.mono HBL.out.size))
                    have HB1r := Lib.hid hb1
                    clear hb1
                    go_wp2_with (at_builtin; refine stop_ ?_)
                    refine Lib.hid ?_
                    refine Leb.wp_bytes _ rfl (.tmp 56) (.tmp 63) rfl w1.heap.size wr.heap.size _ [] D rfl (Leb.own_none w1) (some ⟨g, off + p, none⟩) (c - p) ?_ ?_ ?_ ?_ ?_
                    focus (rw [HDL.out]; show Value.slice _ _ _ = Value.slice _ _ _; rw [Nat.add_sub_cancel_left])
                    focus (exact (HDA.out.keep (HB1r.out.alloc HB1r.out.size _)))
                    focus (rw [HDL.out]; simp; omega)
                    focus (simp)
                    intro v2 w2 ho2 hb2
                    have HB12 := Lib.hid (((Below.refl w1.heap.size w1).alloc (Nat.le_refl _) (.cells #[] 5)).trans hb2)
                    have HB2 := Lib.hid (HB1.out.trans (HB12.out.mono HB1.out.size))
                    have HBr2 := Lib.hid (HB1r.out.trans (HB12.out.mono HB1r.out.size))
                    rw [List.nil_append] at ho2
                    obtain ⟨⟨g2, c2, rfl⟩, _⟩ := id ho2
                    have HO2 := Lib.hid ho2
                    have HOL := Lib.hid ho2
                    rw [HDL.out] at HO2
                    have HR2 : Hid (OwnS 43 w2 w.heap.size u4 L) := Lib.hid (own_keep HM.out.row HBr2.out)
                    have HLL : Hid (L.length ≤ k) := Lib.hid HM.out.len
                    clear ho2 hb2
                    have HRW := HR2
                    have HBW := HB2
                    have HBr := HBr2
                    have HOW : Hid (Leb.Own w2 w.heap.size (.slice (some ⟨g2, 0, none⟩) D.length c2) D) := Lib.hid (by rw [HDL.out]; exact HO2.out.mono HB1.out.size)
                    go_wp2_with (at_builtin; refine stop_ ?_)
                    refine Lib.hid ?_
                    refine wp_oneS 43 23 Try.underlying23 sect_info _ rfl (.tmp 86) (.tmp 90) rfl w.heap.size u4 L ((x, D), .slice (some ⟨g2, 0, none⟩) D.length c2) ⟨_, _, _, rfl⟩ rfl HRW.out rfl ?_ ?_ ?_
                    focus (have := HLL.out; omega)
                    focus (exact HBW.out.size)
                    intro v3 w3 ho3 hb3 hk3
                    go_wp2_with fail
                    go_roundw
                    case rel => exact ⟨f, p + v, x, L ++ [((x, D), .slice (some ⟨g2, 0, none⟩) D.length c2)], by go_num, by go_num, SMid.next (by decide) HM.out HRW.out HOW.out HBr.out HBW.out ho3 hb3 hk3 HDB.out (by rw [scL_one]; exact HQ3.out) (by omega) hvp (by omega) (by omega) (by omega)⟩
                    case measure => simp [intOf]; omega
      · have hin : n ≤ k := by omega
        have j1 : decide ((k : Int) < (n : Int)) = false := decide_eq_false (by omega)
        have HV : Hid (R = (scL L, 0)) := by
          show _ = _
          rw [← HM.out.r]
          obtain ⟨f, rfl⟩ : ∃ f', f = f' + 1 := ⟨f - 1, by omega⟩
          rw [spl, if_pos (by rw [HN.out]; exact hin)]
        go_wp2_with fail
        exact bodyPost_ret (v := .tuple #[u4, .int .i64 0]) (by simp [results, Try.results12, go_sem]) rfl ⟨u4, L, by rw [HV.out], HM.out.row.row fun p hp => (HM.out.dat p hp).ok, by rw [HV.out], HM.out.below⟩
end Go.Proofs.Ytkdnhhhgggmapaa.Sec
