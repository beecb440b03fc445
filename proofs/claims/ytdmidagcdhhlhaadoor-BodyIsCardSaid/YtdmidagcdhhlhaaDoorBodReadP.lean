/- Reading a body, by the program: walked. -/
import Derived.Test.YtdmidagcdhhlhaaDoorBodReadX
import Derived.Test.YtdmidagcdhhlhaaDoorBodSaneP
namespace Go.Proofs.YtdmidagcdhhlhaaDoor.Bod
open Go.RowKit Ints Typ Ins
set_option maxRecDepth 100000
set_option maxHeartbeats 4000000
set_option linter.unusedVariables false
theorem ownR_fr {w w' : World} {B B' : Nat} {v vD vD' : Value} {l : List (Ins × Value)} {D : List Int} (h : OwnR w B v l) (hD : OwnI w B' vD D) (hf : NFr w vD vD' w') : OwnR w' B v l :=
  own_stay h fun k hk => by
    obtain ⟨cur, hc⟩ := own_type h hk
    exact hf.oth k cur _ _ hc (by decide) (by decide) (by decide) (own_ne h hD (by decide) hk)
theorem Lab.fr {w w' : World} {B : Nat} {vD vD' : Value} {L : List (Ins × Value)} (h : Lab w B vD L) (hf : NFr w vD vD' w') : Lab w' B vD' L := fun p hp => by
  obtain ⟨h1, h2, h3⟩ := h p hp
  have hne : ∀ k, p.2.ownBlock = some k → some k ≠ vD.ownBlock := fun k hk => by
    rcases h3 with h3 | h3
    · rw [hk] at h3; cases h3
    · rw [← hk]; exact h3
  refine ⟨own_stay h1 fun k hk => ?_, h2, ?_⟩
  · obtain ⟨cur, hc⟩ := own_type h1 hk
    exact hf.oth k cur _ _ hc (by decide) (by decide) (by decide) (hne k hk)
  · rcases hf.row with e | ⟨g, e, hg⟩
    · rw [e]; exact h3
    · cases ho : p.2.ownBlock with
      | none => exact .inl rfl
      | some k =>
        refine .inr ?_
        rw [e]
        intro e2
        have e2 := Option.some.inj e2
        have := (World.ownsRow.lt h1 k ho).2
        omega
theorem NAt.besideR {w w' : World} {B B' g : Nat} {vM vD vS r : Value} {n : Nst} {lr : List (Ins × Value)} (h : NAt w B g vM vD vS n) (hr : OwnR w B' r lr) (hk : ∀ k, k < w.heap.size → some k ≠ r.ownBlock → w'.heap[k]? = w.heap[k]?) : NAt w' B g vM vD vS n := by
  refine ⟨h.base, ?_, own_beside h.m hr (by decide) hk, own_beside h.d hr (by decide) hk, own_beside h.s hr (by decide) hk⟩
  rw [hk g h.lt ?_]
  · exact h.cell
  · intro e
    obtain ⟨cur, h1⟩ := own_type hr e.symm
    rw [h.cell] at h1
    simp at h1
theorem tk_D {op : Int} {n n' : Nst} (h : tk op n = some n') : n'.D = n.D ++ [depO op n] := by
  unfold tk at h
  split at h
  · rw [← Option.some.inj h]; rfl
  · split at h
    · unfold tkTurn at h
      split at h
      · cases h
      · split at h
        · cases h
        · rw [← Option.some.inj h]; rfl
    · split at h
      · unfold tkEnd at h
        split at h
        · cases h
        · rw [← Option.some.inj h]; rfl
      · rw [← Option.some.inj h]; rfl
theorem prd_succ (b : List Int) (f : Nat) (a : Int) (L : List Ins) (n : Nst) : prd b (f + 1) a L n =
    if (rdo b a).2.2 ≠ 0 then ([], 0, (rdo b a).2.2)
    else if (rdo b a).1.op = 11 ∧ n.S = [] then (L, (rdo b a).2.1, 0)
    else match tk (rdo b a).1.op n with
      | none => ([], 0, 3)
      | some n' => if 4096 ≤ L.length ∨ 32 < depO (rdo b a).1.op n then ([], 0, 4) else prd b f (rdo b a).2.1 (L ++ [(rdo b a).1]) n' := rfl
/-- What stands between two rounds. -/
structure RMid (w : World) (b : List Int) (R : List Ins × Int × Int) (wr : World) (f : Nat) (a : Int) (vL : Value) (L : List (Ins × Value)) (vM vD vS : Value) (n : Nst) : Prop where
  r : prd b f a (insL L) n = R
  f : f + L.length = 4098
  len : L.length ≤ 4096
  row : OwnR wr w.heap.size vL L
  lab : Lab wr w.heap.size vD L
  nst : NAt wr w.heap.size w.heap.size vM vD vS n
  ok : NOk n
  ml : n.M.length = L.length
  sl : n.S.length ≤ L.length
  below : Below w.heap.size w wr
theorem pbread_any {v : Value} {b : List Int} {w : World} (a : Int) (hT : KTab w) (hs : Sl w v b) (hbB : ∀ x ∈ b, 0 ≤ x ∧ x < 256) (hl : b.length ≤ 1000000) :
    Calls Tryd.prog 13 #[v, .int .i64 a] w (BRead (prd b 4098 a [] ⟨[], [], []⟩) w) := by
  obtain ⟨Ab, cb, hv, _⟩ := id hs
  obtain ⟨kb, hkb⟩ : ∃ k, b.length = k := ⟨_, rfl⟩
  rw [hkb] at hv
  subst hv
  have HS := Lib.hid hs
  have HT := Lib.hid hT
  have HBB := Lib.hid hbB
  have HL := Lib.hid hl
  clear hs hT hbB hl hkb
  obtain ⟨R, hR⟩ : ∃ R, prd b 4098 a [] ⟨[], [], []⟩ = R := ⟨_, rfl⟩
  rw [hR]
  have HRR := Lib.hid hR
  clear hR
  have HNEW := Lib.hid (NAt.new w)
  have HA := Lib.hid ((Below.refl w.heap.size w).alloc (Nat.le_refl _) (.cells #[.slice none 0 0, .slice none 0 0, .slice none 0 0] 56))
  go_enter Tryd.func13, Tryd.ntmps13
  go_wp2_with fail
  go_loopw [1, 7] (fun a1 a7 wr => ∃ (f : Nat) (a' : Int) (L : List (Ins × Value)) (vM vD vS : Value) (n : Nst), a1 = .int .i64 a' ∧ RMid w b R wr f a' a7 L vM vD vS n) (fun _ a7 _ => 4097 - lenOf a7)
  case atStart => exact ⟨4098, a, [], _, _, _, _, rfl, ⟨HRR.out, rfl, by decide, ownR_nil _ _, fun p hp => by simp at hp, HNEW.out, ⟨rfl, fun x hx => by simp at hx, fun x hx => by simp at hx⟩, rfl, Nat.le_refl _, HA.out⟩⟩
  case round =>
    clear HRR HNEW HA
    obtain ⟨f, a', L, vM, vD, vS, n, rfl, hM⟩ := hrel
    have HM := Lib.hid hM
    clear hM
    obtain ⟨PL, cL, hv⟩ := OwnR.form HM.out.row
    obtain ⟨nL, hnL⟩ : ∃ k, L.length = k := ⟨_, rfl⟩
    rw [hnL] at hv
    subst hv
    have HNL := Lib.hid hnL
    have hn1 : nL ≤ 4096 := by rw [← hnL]; exact HM.out.len
    obtain ⟨f, rfl⟩ : ∃ f', f = f' + 1 := ⟨f - 1, by have := HM.out.f; have := HM.out.len; omega⟩
    clear hnL
    obtain ⟨x, hx⟩ : ∃ x, rdo b a' = x := ⟨_, rfl⟩
    have HPR := Lib.hid (HM.out.r)
    rw [prd_succ, hx] at HPR
    have HX := Lib.hid hx
    clear hx
    go_wp2_with fail
    refine (pread_any a' (HS.out.keep HM.out.below) HBB.out HL.out (HT.out.keep HM.out.below)).mono ?_
    rintro en w3 ⟨ov, rfl, ho3, hb3⟩
    rw [HX.out] at ho3 ⊢
    obtain ⟨⟨op, XA, XB, XK, XL⟩, behind, er⟩ := x
    obtain ⟨PX, cX, hvx⟩ := OwnI.form ho3
    obtain ⟨nX, hnX⟩ : ∃ k, XL.length = k := ⟨_, rfl⟩
    simp only at hvx ho3 HPR ⊢
    rw [hnX] at hvx
    subst hvx
    have HO3 := Lib.hid ho3
    have HBx := Lib.hid hb3
    have hal := (Below.refl w3.heap.size w3).alloc (Nat.le_refl _) (.cells #[.int .i64 op, .int .i64 XA, .int .i64 XB, .int .u64 XK, .slice PX nX cX] 50)
    have HBW := Lib.hid (HBx.out.trans (hal.mono HBx.out.size))
    have HBY := Lib.hid (HM.out.below.trans (HBW.out.mono HM.out.below.size))
    have HU := Lib.hid (show er = 0 → u64R XK from fun h0 => by
      have h1 := rdo_u64 HBB.out (a := a') (by rw [HX.out]; exact h0)
      rw [HX.out] at h1
      exact h1)
    have HN4 := Lib.hid (HM.out.nst.keep HBW.out)
    have HR4 := Lib.hid (HM.out.row.keep HBW.out)
    have HLab4 := Lib.hid (HM.out.lab.keep HBW.out)
    have HO4 := Lib.hid (World.ownsRow.alloc HO3.out (.cells #[.int .i64 op, .int .i64 XA, .int .i64 XB, .int .u64 XK, .slice PX nX cX] 50))
    have HFA := Lib.hid (fresh_apart HO3.out HM.out.nst.d)
    have HLS : Hid (w.heap.size ≤ wr.heap.size) := HM.out.below.size
    clear ho3 hb3 hnX hal
    by_cases he : er = 0
    · subst he
      have HPR1 := HPR.out
      rw [if_neg (by simp)] at HPR1
      obtain ⟨PS, cS, hvS⟩ := HN4.out.stk
      obtain ⟨kS, hkS⟩ : ∃ k, n.S.length = k := ⟨_, rfl⟩
      rw [hkS] at hvS
      subst hvS
      obtain ⟨z0, z1, z2, _, _, _⟩ := HN4.out.cells
      clear z0 z1
      have HPR2 := Lib.hid HPR1
      clear HPR1 HPR
      by_cases hend : op = 11 ∧ n.S = []
      · obtain ⟨rfl, hS0⟩ := hend
        have HRV : Hid (R = (insL L, behind, 0)) := by
          have h := HPR2.out
          rw [if_pos ⟨rfl, hS0⟩] at h
          exact h.symm
        have hk0 : kS = 0 := by rw [← hkS, hS0]; rfl
        subst hk0
        have HROW := Lib.hid (OwnR.row HR4.out HLab4.out.ok)
        clear hS0 hkS
        go_wp2_with fail
        exact bodyPost_ret (v := .tuple #[.slice PL nL cL, .int .i64 behind, .int .i64 0]) (by simp [results, Tryd.results13, go_sem]) rfl ⟨_, _, by rw [HRV.out], HROW.out, by rw [HRV.out], HBY.out⟩
      · have HPR3 : Hid ((match tk op n with
            | none => (([], 0, 3) : List Ins × Int × Int)
            | some n' => if 4096 ≤ (insL L).length ∨ 32 < depO op n then ([], 0, 4) else prd b f behind (insL L ++ [⟨op, XA, XB, XK, XL⟩]) n') = R) := by
          have h := HPR2.out
          rw [if_neg hend] at h
          exact h
        have HC9 := Lib.hid (heap_new w3 (.cells #[.int .i64 op, .int .i64 XA, .int .i64 XB, .int .u64 XK, .slice PX nX cX] 50))
        have HLabA := Lib.hid (HLab4.out.add (p := (⟨op, XA, XB, XK, XL⟩, .slice PX nX cX)) (own_low HO4.out HLS.out) (HU.out rfl) HFA.out)
        have HTKC := Lib.hid (ptake_any op HT.out HBY.out HN4.out HM.out.ok (by rw [HM.out.ml]; have := HM.out.len; omega) (by have := HM.out.sl; have := HM.out.len; omega))
        have htest : ((op == 11) = false) ∨ ((op == 11) = true ∧ ((kS : Int) == 0) = false) := by
          by_cases e : op = 11
          · refine .inr ⟨by simpa using e, ?_⟩
            have : n.S ≠ [] := fun q => hend ⟨e, q⟩
            have : n.S.length ≠ 0 := fun q => this (List.length_eq_zero_iff.1 q)
            simp
            omega
          · exact .inl (by simpa using e)
        clear hend HPR2 hkS
        rcases htest with t2 | ⟨t2, t3⟩
        · go_wp2_with fail
          refine HTKC.out.mono ?_
          rintro en w5 ⟨vM5, vD5, vS5, n5, rfl, hr5, N5, F5, B5⟩
          have HN5 := Lib.hid N5
          have HF5 := Lib.hid F5
          have HB5 := Lib.hid (HBY.out.trans B5)
          have HR5 := Lib.hid (ownR_fr HR4.out HN4.out.d F5)
          have HLab5 := Lib.hid (HLabA.out.fr F5)
          have hX5 := F5.oth _ _ _ _ HC9.out (by decide) (by decide) (by decide) (fun e => by
            obtain ⟨cur, hc⟩ := own_type HN4.out.d e.symm
            rw [HC9.out] at hc
            simp at hc)
          have HX5 := Lib.hid (hX5.trans HC9.out)
          clear N5 F5 B5 hX5 HTKC HC9 HLabA
          cases htk : tk op n with
          | none =>
            have HRV : Hid (R = ([], 0, 3)) := by
              have h := HPR3.out
              rw [htk] at h
              exact h.symm
            clear htk
            go_wp2_with fail
            exact bodyPost_ret (v := .tuple #[.slice none 0 0, .int .i64 0, .int .i64 3]) (by simp [results, Tryd.results13, go_sem]) rfl ⟨_, [], by rw [HRV.out], InRow.nil _, by rw [HRV.out]; rfl, HB5.out⟩
          | some n' =>
            obtain rfl := hr5 _ htk
            have HPR4 : Hid ((if 4096 ≤ nL ∨ 32 < depO op n then (([], 0, 4) : List Ins × Int × Int) else prd b f behind (insL L ++ [⟨op, XA, XB, XK, XL⟩]) n5) = R) := by
              have h := HPR3.out
              rw [htk] at h
              simp only at h
              rw [insL_len, HNL.out] at h
              exact h
            have HDD := Lib.hid (tk_D htk)
            have HLEN := Lib.hid (tk_lens htk)
            have HOK5 := Lib.hid (HM.out.ok.step htk)
            clear htk hr5
            by_cases h4096 : nL = 4096
            · have HRV : Hid (R = ([], 0, 4)) := by
                have h := HPR4.out
                rw [if_pos (.inl (by omega))] at h
                exact h.symm
              subst h4096
              go_wp2_with fail
              exact bodyPost_ret (v := .tuple #[.slice none 0 0, .int .i64 0, .int .i64 4]) (by simp [results, Tryd.results13, go_sem]) rfl ⟨_, [], by rw [HRV.out], InRow.nil _, by rw [HRV.out]; rfl, HB5.out⟩
            · have t9 : ((nL : Int) == 4096) = false := by simp; omega
              have t9' : (nL == 4096) = false := by simpa using h4096
              have hdl : n5.D.length = nL + 1 := by
                rw [HDD.out, List.length_append, HM.out.ok.len, HM.out.ml, HNL.out]
                rfl
              have hdg : n5.D.getD nL 0 = depO op n := by
                have e : nL = n.D.length := by rw [HM.out.ok.len, HM.out.ml, HNL.out]
                rw [HDD.out, e]
                exact getD_app2
              obtain ⟨P5, e5, hv5⟩ := OwnI.form HN5.out.d
              rw [hdl] at hv5
              subst hv5
              obtain ⟨gd, od, hPd, _, hcl⟩ := sl_cell (OwnI.slI HN5.out.d) (i := nL) (by rw [hdl]; omega)
              rw [hdg] at hcl
              subst hPd
              obtain ⟨_, z1, _, _, _, _⟩ := HN5.out.cells
              have i1 : (0 : Int) ≤ (nL : Int) := by omega
              have i2 : (nL : Int) < ((nL + 1 : Nat) : Int) := by omega
              have i3 : (nL : Int) < (nL : Int) + 1 := by omega
              have x0 := (cells_at HX5.out 0).1
              have x1 := (cells_at HX5.out 1).1
              have x2 := (cells_at HX5.out 2).1
              have x3 := (cells_at HX5.out 3).1
              have x4 := (cells_at HX5.out 4).1
              simp only [List.getElem?_toArray, List.getElem?_cons_zero, List.getElem?_cons_succ] at x0 x1 x2 x3 x4
              obtain ⟨dd, hdd⟩ : ∃ d, depO op n = d := ⟨_, rfl⟩
              rw [hdd] at hcl HPR4
              clear hdl hdg hdd
              go_wp2_with fail
              refine (toodeep_any dd w5).mono ?_
              rintro en w6 ⟨rfl, rfl⟩
              by_cases hdeep : 32 < dd
              · have HRV : Hid (R = ([], 0, 4)) := by
                  have h := HPR4.out
                  rw [if_pos (.inr hdeep)] at h
                  exact h.symm
                have t10 : decide (32 < dd) = true := decide_eq_true hdeep
                rw [t10]
                clear hdeep
                go_wp2_with fail
                exact bodyPost_ret (v := .tuple #[.slice none 0 0, .int .i64 0, .int .i64 4]) (by simp [results, Tryd.results13, go_sem]) rfl ⟨_, [], by rw [HRV.out], InRow.nil _, by rw [HRV.out]; rfl, HB5.out⟩
              · have HRV : Hid (prd b f behind (insL L ++ [⟨op, XA, XB, XK, XL⟩]) n5 = R) := by
                  have h := HPR4.out
                  rw [if_neg (by omega)] at h
                  exact h
                have t10 : decide (32 < dd) = false := decide_eq_false hdeep
                rw [t10]
                clear hdeep hcl z1
                go_wp2_with (at_builtin; refine wp_oneR _ rfl (.tmp 49) (.tmp 51) rfl w.heap.size _ L (⟨op, XA, XB, XK, XL⟩, .slice PX nX cX) ⟨_, _, _, rfl⟩ rfl HR5.out rfl (by have := HM.out.len; omega) HB5.out.size ?_; intro v7 w7 ho7 hb7 hk7; have HO7 := Lib.hid ho7; have HB7 := Lib.hid (HB5.out.trans hb7); have HN7 := Lib.hid (HN5.out.besideR HR5.out hk7); have HLab7 := Lib.hid (HLab5.out.row HR5.out hk7); clear ho7 hb7 hk7)
                obtain ⟨P7, c7', hv7⟩ := OwnR.form HO7.out
                rw [show (L ++ [((⟨op, XA, XB, XK, XL⟩ : Ins), (Value.slice PX nX cX))]).length = nL + 1 from by rw [List.length_append, HNL.out]; rfl] at hv7
                subst hv7
                go_roundw
                case rel => exact ⟨f, behind, L ++ [(⟨op, XA, XB, XK, XL⟩, .slice PX nX cX)], _, _, _, _, rfl, ⟨by rw [← HRV.out]; simp [insL], by have := HM.out.f; rw [List.length_append]; simp; omega, by have := HNL.out; rw [List.length_append]; simp; omega, HO7.out, HLab7.out, HN7.out, HOK5.out, by have := HLEN.out.1; have := HM.out.ml; rw [List.length_append]; simp; omega, by have := HLEN.out.2; have := HM.out.sl; rw [List.length_append]; simp; omega, HB7.out⟩⟩
                case measure => simp [lenOf]; omega
        · go_wp2_with fail
          refine HTKC.out.mono ?_
          rintro en w5 ⟨vM5, vD5, vS5, n5, rfl, hr5, N5, F5, B5⟩
          have HN5 := Lib.hid N5
          have HF5 := Lib.hid F5
          have HB5 := Lib.hid (HBY.out.trans B5)
          have HR5 := Lib.hid (ownR_fr HR4.out HN4.out.d F5)
          have HLab5 := Lib.hid (HLabA.out.fr F5)
          have hX5 := F5.oth _ _ _ _ HC9.out (by decide) (by decide) (by decide) (fun e => by
            obtain ⟨cur, hc⟩ := own_type HN4.out.d e.symm
            rw [HC9.out] at hc
            simp at hc)
          have HX5 := Lib.hid (hX5.trans HC9.out)
          clear N5 F5 B5 hX5 HTKC HC9 HLabA
          cases htk : tk op n with
          | none =>
            have HRV : Hid (R = ([], 0, 3)) := by
              have h := HPR3.out
              rw [htk] at h
              exact h.symm
            clear htk
            go_wp2_with fail
            exact bodyPost_ret (v := .tuple #[.slice none 0 0, .int .i64 0, .int .i64 3]) (by simp [results, Tryd.results13, go_sem]) rfl ⟨_, [], by rw [HRV.out], InRow.nil _, by rw [HRV.out]; rfl, HB5.out⟩
          | some n' =>
            obtain rfl := hr5 _ htk
            have HPR4 : Hid ((if 4096 ≤ nL ∨ 32 < depO op n then (([], 0, 4) : List Ins × Int × Int) else prd b f behind (insL L ++ [⟨op, XA, XB, XK, XL⟩]) n5) = R) := by
              have h := HPR3.out
              rw [htk] at h
              simp only at h
              rw [insL_len, HNL.out] at h
              exact h
            have HDD := Lib.hid (tk_D htk)
            have HLEN := Lib.hid (tk_lens htk)
            have HOK5 := Lib.hid (HM.out.ok.step htk)
            clear htk hr5
            by_cases h4096 : nL = 4096
            · have HRV : Hid (R = ([], 0, 4)) := by
                have h := HPR4.out
                rw [if_pos (.inl (by omega))] at h
                exact h.symm
              subst h4096
              go_wp2_with fail
              exact bodyPost_ret (v := .tuple #[.slice none 0 0, .int .i64 0, .int .i64 4]) (by simp [results, Tryd.results13, go_sem]) rfl ⟨_, [], by rw [HRV.out], InRow.nil _, by rw [HRV.out]; rfl, HB5.out⟩
            · have t9 : ((nL : Int) == 4096) = false := by simp; omega
              have t9' : (nL == 4096) = false := by simpa using h4096
              have hdl : n5.D.length = nL + 1 := by
                rw [HDD.out, List.length_append, HM.out.ok.len, HM.out.ml, HNL.out]
                rfl
              have hdg : n5.D.getD nL 0 = depO op n := by
                have e : nL = n.D.length := by rw [HM.out.ok.len, HM.out.ml, HNL.out]
                rw [HDD.out, e]
                exact getD_app2
              obtain ⟨P5, e5, hv5⟩ := OwnI.form HN5.out.d
              rw [hdl] at hv5
              subst hv5
              obtain ⟨gd, od, hPd, _, hcl⟩ := sl_cell (OwnI.slI HN5.out.d) (i := nL) (by rw [hdl]; omega)
              rw [hdg] at hcl
              subst hPd
              obtain ⟨_, z1, _, _, _, _⟩ := HN5.out.cells
              have i1 : (0 : Int) ≤ (nL : Int) := by omega
              have i2 : (nL : Int) < ((nL + 1 : Nat) : Int) := by omega
              have i3 : (nL : Int) < (nL : Int) + 1 := by omega
              have x0 := (cells_at HX5.out 0).1
              have x1 := (cells_at HX5.out 1).1
              have x2 := (cells_at HX5.out 2).1
              have x3 := (cells_at HX5.out 3).1
              have x4 := (cells_at HX5.out 4).1
              simp only [List.getElem?_toArray, List.getElem?_cons_zero, List.getElem?_cons_succ] at x0 x1 x2 x3 x4
              obtain ⟨dd, hdd⟩ : ∃ d, depO op n = d := ⟨_, rfl⟩
              rw [hdd] at hcl HPR4
              clear hdl hdg hdd
              go_wp2_with fail
              refine (toodeep_any dd w5).mono ?_
              rintro en w6 ⟨rfl, rfl⟩
              by_cases hdeep : 32 < dd
              · have HRV : Hid (R = ([], 0, 4)) := by
                  have h := HPR4.out
                  rw [if_pos (.inr hdeep)] at h
                  exact h.symm
                have t10 : decide (32 < dd) = true := decide_eq_true hdeep
                rw [t10]
                clear hdeep
                go_wp2_with fail
                exact bodyPost_ret (v := .tuple #[.slice none 0 0, .int .i64 0, .int .i64 4]) (by simp [results, Tryd.results13, go_sem]) rfl ⟨_, [], by rw [HRV.out], InRow.nil _, by rw [HRV.out]; rfl, HB5.out⟩
              · have HRV : Hid (prd b f behind (insL L ++ [⟨op, XA, XB, XK, XL⟩]) n5 = R) := by
                  have h := HPR4.out
                  rw [if_neg (by omega)] at h
                  exact h
                have t10 : decide (32 < dd) = false := decide_eq_false hdeep
                rw [t10]
                clear hdeep hcl z1
                go_wp2_with (at_builtin; refine wp_oneR _ rfl (.tmp 49) (.tmp 51) rfl w.heap.size _ L (⟨op, XA, XB, XK, XL⟩, .slice PX nX cX) ⟨_, _, _, rfl⟩ rfl HR5.out rfl (by have := HM.out.len; omega) HB5.out.size ?_; intro v7 w7 ho7 hb7 hk7; have HO7 := Lib.hid ho7; have HB7 := Lib.hid (HB5.out.trans hb7); have HN7 := Lib.hid (HN5.out.besideR HR5.out hk7); have HLab7 := Lib.hid (HLab5.out.row HR5.out hk7); clear ho7 hb7 hk7)
                obtain ⟨P7, c7', hv7⟩ := OwnR.form HO7.out
                rw [show (L ++ [((⟨op, XA, XB, XK, XL⟩ : Ins), (Value.slice PX nX cX))]).length = nL + 1 from by rw [List.length_append, HNL.out]; rfl] at hv7
                subst hv7
                go_roundw
                case rel => exact ⟨f, behind, L ++ [(⟨op, XA, XB, XK, XL⟩, .slice PX nX cX)], _, _, _, _, rfl, ⟨by rw [← HRV.out]; simp [insL], by have := HM.out.f; rw [List.length_append]; simp; omega, by have := HNL.out; rw [List.length_append]; simp; omega, HO7.out, HLab7.out, HN7.out, HOK5.out, by have := HLEN.out.1; have := HM.out.ml; rw [List.length_append]; simp; omega, by have := HLEN.out.2; have := HM.out.sl; rw [List.length_append]; simp; omega, HB7.out⟩⟩
                case measure => simp [lenOf]; omega
    · have HRV : Hid (R = ([], 0, er)) := by
        have h := HPR.out
        rw [if_pos he] at h
        exact h.symm
      have t1 : (er != 0) = true := by simpa using he
      clear he HPR
      go_wp2_with fail
      exact bodyPost_ret (v := .tuple #[.slice none 0 0, .int .i64 0, .int .i64 er]) (by simp [results, Tryd.results13, go_sem]) rfl ⟨_, [], by rw [HRV.out], InRow.nil _, by rw [HRV.out]; rfl, HBY.out⟩
end Go.Proofs.YtdmidagcdhhlhaaDoor.Bod
