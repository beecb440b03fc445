/- BodReadX, BodSaneP. -/
import Derived.Test.YtffegkjlgeblbaaGreatDoorPkBodTurn
import Derived.Test.YtffegkjlgeblbaaGreatDoorPkBodPut
import Derived.WalkMore
import Derived.Test.YtffegkjlgeblbaaGreatDoorPkInsPSane
section
/- Reading a body, plain: the program's way and the document's; what is laid is read. -/
namespace Go.Proofs.YtffegkjlgeblbaaGreatDoor.Bod
open Go.RowKit Ints Typ Ins
set_option maxRecDepth 100000
set_option maxHeartbeats 1000000
set_option linter.unusedVariables false
def prd (b : List Int) : Nat → Int → List Ins → Nst → List Ins × Int × Int
  | 0, _, _, _ => ([], 0, 4)
  | f + 1, a, L, n =>
    if (rdo b a).2.2 ≠ 0 then ([], 0, (rdo b a).2.2)
    else if (rdo b a).1.op = 11 ∧ n.S = [] then (L, (rdo b a).2.1, 0)
    else match tk (rdo b a).1.op n with
      | none => ([], 0, 3)
      | some n' => if 4096 ≤ L.length ∨ 32 < depO (rdo b a).1.op n then ([], 0, 4) else prd b f (rdo b a).2.1 (L ++ [(rdo b a).1]) n'
def kOf (ops : List Int) (S : Stk) : List Int := S.map fun x => if x.2.2 < 0 then ops.getD x.1 0 else 5
theorem kOf_app {ops : List Int} {op : Int} {S : Stk} (h : ∀ x ∈ S, x.1 < ops.length) : kOf (ops ++ [op]) S = kOf ops S := by
  unfold kOf
  apply List.map_congr_left
  intro x hx
  rw [getD_app1 (h x hx)]
theorem held_lt {ops : List Int} {p : Nat} {S : Stk} (hp : p ≤ ops.length) (h : st ops p = some S) : ∀ x ∈ S, x.1 < p := fun x hx => by
  obtain ⟨S1, S2, e⟩ := List.append_of_mem hx
  obtain ⟨k, f, o⟩ := x
  exact (held ops hp h S1 S2 k f o e).1
theorem nst_snoc {ops : List Int} {op : Int} {n : Nst} (h : nst ops ops.length = some n) : nst (ops ++ [op]) (ops.length + 1) = tk op n := by
  have e : nst (ops ++ [op]) (ops.length + 1) = (nst (ops ++ [op]) ops.length).bind fun n => tk ((ops ++ [op]).getD ops.length 0) n := rfl
  rw [e, nst_front (Nat.le_refl _), h, getD_app2]
  rfl
theorem st_snoc {ops : List Int} {op : Int} {S : Stk} (h : st ops ops.length = some S) : st (ops ++ [op]) (ops.length + 1) = stepS ops.length op S := by
  have e : st (ops ++ [op]) (ops.length + 1) = (st (ops ++ [op]) ops.length).bind fun S => stepS ops.length ((ops ++ [op]).getD ops.length 0) S := rfl
  rw [e, st_front (Nat.le_refl _), h, getD_app2]
  rfl
theorem prd_drd (b : List Int) : ∀ (f : Nat) (a : Int) (L : List Ins) (n : Nst) (S : Stk), nst (L.map (·.op)) L.length = some n → st (L.map (·.op)) L.length = some S → prd b f a L n = drd b f a L (kOf (L.map (·.op)) S)
  | 0, a, L, n, S, _, _ => rfl
  | f + 1, a, L, n, S, hn, hS => by
    obtain ⟨ops, hops⟩ : ∃ ops, L.map (·.op) = ops := ⟨_, rfl⟩
    have hol : ops.length = L.length := by rw [← hops]; simp
    rw [hops] at hn hS ⊢
    rw [← hol] at hn hS
    unfold prd drd
    by_cases h1 : (rdo b a).2.2 ≠ 0
    · rw [if_pos h1, if_pos h1]
    · rw [if_neg h1, if_neg h1]
      obtain ⟨x, hx⟩ : ∃ x, (rdo b a).1 = x := ⟨_, rfl⟩
      rw [hx]
      have I := nst_inv ops ops.length (Nat.le_refl _)
      rw [hS] at I
      obtain ⟨n2, hn2, I⟩ := I
      rw [hn] at hn2
      obtain rfl := Option.some.inj hn2
      have hSK : n.S = [] ↔ kOf ops S = [] := by rw [I.stk]; unfold kOf; simp
      by_cases h2 : x.op = 11 ∧ n.S = []
      · rw [if_pos h2, if_pos ⟨h2.1, hSK.1 h2.2⟩]
      · rw [if_neg h2, if_neg (fun q => h2 ⟨q.1, hSK.2 q.2⟩)]
        have J := nst_inv (ops ++ [x.op]) (ops.length + 1) (by simp)
        rw [st_snoc hS, nst_snoc hn] at J
        have hH := held ops (Nat.le_refl _) hS
        have hlt := held_lt (Nat.le_refl _) hS
        have hSl : (n.S.length : Int) = ((kOf ops S).length : Int) := by rw [I.stk]; unfold kOf; simp
        have hgo : ∀ (S' : Stk) (n' : Nst), stepS ops.length x.op S = some S' → tk x.op n = some n' → kIn x.op (kOf ops S) = kOf (ops ++ [x.op]) S' → (depO x.op n = ((kOut x.op (kOf ops S)).length : Int)) →
            (match tk x.op n with
              | none => (([], 0, 3) : List Ins × Int × Int)
              | some n' => if 4096 ≤ L.length ∨ 32 < depO x.op n then ([], 0, 4) else prd b f (rdo b a).2.1 (L ++ [x]) n') = if 4096 ≤ L.length ∨ 32 < (kOut x.op (kOf ops S)).length then ([], 0, 4) else drd b f (rdo b a).2.1 (L ++ [x]) (kIn x.op (kOf ops S)) := fun S' n' g1 g2 g3 g4 => by
          rw [g2]
          simp only
          by_cases h4 : 4096 ≤ L.length ∨ 32 < depO x.op n
          · rw [if_pos h4, if_pos (by omega)]
          · rw [if_neg h4, if_neg (by omega), g3]
            have hm : (L ++ [x]).map (·.op) = ops ++ [x.op] := by rw [List.map_append, hops]; rfl
            have := prd_drd b f (rdo b a).2.1 (L ++ [x]) n' S' (by rw [hm, List.length_append, ← hol]; exact (nst_snoc hn).trans g2) (by rw [hm, List.length_append, ← hol]; exact (st_snoc hS).trans g1)
            rw [hm] at this
            exact this
        by_cases o1 : opn x.op = true
        · have hs : stepS ops.length x.op S = some ((ops.length, x.op == 4, -1) :: S) := by unfold stepS; rw [if_pos o1]
          rw [hs] at J
          obtain ⟨n', hn', _⟩ := J
          have hno := opn_not o1
          rw [if_neg (fun q => hno.1 q.1)]
          refine hgo _ _ hs hn' ?_ ?_
          · unfold kIn kOut
            rw [if_pos (.inl o1), if_neg (by omega)]
            have : kOf (ops ++ [x.op]) ((ops.length, x.op == 4, -1) :: S) = (if (-1 : Int) < 0 then (ops ++ [x.op]).getD ops.length 0 else 5) :: kOf (ops ++ [x.op]) S := rfl
            rw [this, if_pos (by decide), getD_app2, kOf_app hlt]
          · unfold depO kOut
            rw [if_neg (by omega), if_neg (by omega)]
            exact hSl
        · by_cases o5 : x.op = 5
          · cases hSS : S with
            | nil =>
              have hs : stepS ops.length x.op S = none := by rw [hSS]; unfold stepS; rw [if_neg o1, if_pos o5]
              rw [hs] at J
              rw [J]
              rw [if_pos ⟨o5, by simp [kOf]⟩]
            | cons y S0 =>
              obtain ⟨k, fl, o⟩ := y
              obtain ⟨g1, g2, g3, g4, g5, _⟩ := hH [] S0 k fl o hSS
              have hkc : kOf ops ((k, fl, o) :: S0) = (if o < 0 then ops.getD k 0 else 5) :: kOf ops S0 := rfl
              by_cases hbad : fl = true ∧ o < 0
              · obtain ⟨rfl, ho⟩ := hbad
                have hs : stepS ops.length x.op S = some ((k, true, (ops.length : Int)) :: S0) := by rw [hSS]; unfold stepS; rw [if_neg o1, if_pos o5]; simp only; rw [if_pos ho]
                rw [hs] at J
                obtain ⟨n', hn', _⟩ := J
                have h4 : ops.getD k 0 = 4 := by simpa using g3.symm
                rw [hkc, if_pos ho, h4, if_neg (by simp)]
                rw [hSS, hkc, if_pos ho, h4] at hgo
                refine hgo _ _ (hSS ▸ hs) hn' ?_ ?_
                · unfold kIn kOut
                  rw [if_pos (.inr o5), if_pos (.inl o5)]
                  have : kOf (ops ++ [x.op]) ((k, true, (ops.length : Int)) :: S0) = (if (ops.length : Int) < 0 then (ops ++ [x.op]).getD k 0 else 5) :: kOf (ops ++ [x.op]) S0 := rfl
                  rw [this, if_neg (by omega), kOf_app (fun z hz => hlt z (by rw [hSS]; exact List.mem_cons_of_mem _ hz)), o5]
                  rfl
                · unfold depO kOut
                  rw [if_pos (.inl o5), if_pos (.inl o5)]
                  rw [hSl, hSS]
                  simp [kOf]
              · have hs : stepS ops.length x.op S = none := by
                  rw [hSS]
                  unfold stepS
                  rw [if_neg o1, if_pos o5]
                  cases fl with
                  | false => rfl
                  | true => simp only; rw [if_neg (fun q => hbad ⟨rfl, q⟩)]
                rw [hs] at J
                rw [J]
                have hne : (kOf ops ((k, fl, o) :: S0)).headD 0 ≠ 4 := by
                  rw [hkc]
                  simp only [List.headD_cons]
                  by_cases ho : o < 0
                  · rw [if_pos ho]
                    intro e
                    exact hbad ⟨by rw [g3, e]; rfl, ho⟩
                  · rw [if_neg ho]
                    decide
                rw [if_pos ⟨o5, hne⟩]
          · rw [if_neg (fun q => o5 q.1)]
            by_cases o11 : x.op = 11
            · cases hSS : S with
              | nil => exact absurd ⟨o11, by rw [I.stk, hSS]; rfl⟩ h2
              | cons y S0 =>
                have hs : stepS ops.length x.op S = some S0 := by rw [hSS]; unfold stepS; rw [if_neg o1, if_neg o5, if_pos o11]
                rw [hs] at J
                obtain ⟨n', hn', _⟩ := J
                rw [hSS] at hgo
                refine hgo _ _ (hSS ▸ hs) hn' ?_ ?_
                · unfold kIn kOut
                  rw [if_neg (by intro q; rcases q with q | q; exact o1 q; exact o5 q), if_pos (.inr o11), kOf_app (fun z hz => hlt z (by rw [hSS]; exact List.mem_cons_of_mem _ hz))]
                  rfl
                · unfold depO kOut
                  rw [if_pos (.inr o11), if_pos (.inr o11)]
                  rw [hSl, hSS]
                  simp [kOf]
            · have hs : stepS ops.length x.op S = some S := by unfold stepS; rw [if_neg o1, if_neg o5, if_neg o11]
              rw [hs] at J
              obtain ⟨n', hn', _⟩ := J
              refine hgo _ _ hs hn' ?_ ?_
              · unfold kIn kOut
                rw [if_neg (by intro q; rcases q with q | q; exact o1 q; exact o5 q), if_neg (by omega), kOf_app hlt]
              · unfold depO kOut
                rw [if_neg (by omega), if_neg (by omega)]
                exact hSl
theorem prd_drd0 (b : List Int) (f : Nat) (a : Int) : prd b f a [] ⟨[], [], []⟩ = drd b f a [] [] := prd_drd b f a [] _ [] rfl rfl
theorem insL_take (l : List (Ins × Value)) (k : Nat) : insL (l.take k) = (insL l).take k := by simp [insL]
theorem prd_go {l : List (Ins × Value)} (hu : ∀ p ∈ l, u64R p.1.K) (hS : SaneB l) {b t : List Int} (hb : ∀ i p, l[i]? = some p → ∃ t', b ++ ibs l ++ t = (b ++ ibs (l.take i)) ++ (ib p.1 ++ t')) (i : Nat) (hi : i ≤ l.length) (f : Nat) (n : Nst) (hn : nst (opsL l) i = some n) (hf : l.length - i < f) :
    ∃ m, nst (opsL l) l.length = some m ∧ prd (b ++ ibs l ++ t) f ((b ++ ibs (l.take i)).length : Nat) (insL (l.take i)) n = prd (b ++ ibs l ++ t) (f - (l.length - i)) ((b ++ ibs l).length : Nat) (insL l) m := by
  obtain ⟨d, hd⟩ : ∃ d, l.length - i = d := ⟨_, rfl⟩
  induction d generalizing i f n with
  | zero =>
    obtain rfl : i = l.length := by omega
    refine ⟨n, hn, ?_⟩
    rw [hd, Nat.sub_zero, List.take_length]
  | succ d ih =>
    have hlt : i < l.length := by omega
    obtain ⟨p, hp⟩ : ∃ p, l[i]? = some p := ⟨_, List.getElem?_eq_getElem hlt⟩
    obtain ⟨t', ht⟩ := hb i p hp
    have hsp := hS.2.2 i p hp
    have hr := rdo_back (hu p (List.mem_of_getElem? hp)) hsp.1 (b ++ ibs (l.take i)) t'
    rw [← ht] at hr
    obtain ⟨ms, hms⟩ := hS.1
    have hN := dM_nested hms
    have hop : (opsL l).getD i 0 = p.1.op := opsL_get hp
    have hI := nst_inv (opsL l) i (by rw [opsL_len]; omega)
    have hst := sAt_st hN (p := i) (by rw [opsL_len]; omega)
    have hst1 := sAt_st hN (p := i + 1) (by rw [opsL_len]; omega)
    rw [hst] at hI
    obtain ⟨n2, hn2, I⟩ := hI
    rw [hn] at hn2
    obtain rfl := Option.some.inj hn2
    have hstep := st_succ hst hst1
    have hI1 := nst_inv (opsL l) (i + 1) (by rw [opsL_len]; omega)
    rw [hst1] at hI1
    obtain ⟨n', hn', _⟩ := hI1
    have htk : tk p.1.op n = some n' := by
      have e : nst (opsL l) (i + 1) = (nst (opsL l) i).bind fun n => tk ((opsL l).getD i 0) n := rfl
      rw [hn, hop] at e
      exact e.symm.trans hn'
    have hdep : depO p.1.op n = (((aroundD (opsL l) i).length : Nat) : Int) := by
      have h1 := depL_step hst I hstep
      rw [I.dep, depL_succ, hop] at h1
      have := List.append_cancel_left h1
      simpa using this
    obtain ⟨f', rfl⟩ : ∃ f', f = f' + 1 := ⟨f - 1, by omega⟩
    have hbody : prd (b ++ ibs l ++ t) (f' + 1) ((b ++ ibs (l.take i)).length : Nat) (insL (l.take i)) n = prd (b ++ ibs l ++ t) f' ((b ++ ibs (l.take (i + 1))).length : Nat) (insL (l.take (i + 1))) n' := by
      have hpos : (b ++ ibs (l.take i)).length + (ib p.1).length = (b ++ ibs (l.take (i + 1))).length := by
        rw [ibs_take hp]
        simp only [List.length_append]
        omega
      have hins : insL (l.take i) ++ [p.1] = insL (l.take (i + 1)) := by
        rw [insL_take, insL_take, List.take_add_one, insL_get hp]
        rfl
      rw [prd]
      rw [hr]
      simp only
      rw [if_neg (by simp), if_neg, htk]
      · simp only
        rw [hdep, if_neg, hpos, hins]
        have h1 : (insL (l.take i)).length = i := by rw [insL_len, List.length_take]; omega
        have h2 := hS.2.1
        have h3 := hsp.2
        omega
      · rintro ⟨e11, eS⟩
        have : sAt (opsL l) i = [] := by
          have h1 := I.stk
          rw [eS] at h1
          simpa using h1.symm
        rw [this, hop] at hstep
        unfold stepS at hstep
        rw [if_neg (by rw [e11]; decide), if_neg (by rw [e11]; decide), if_pos e11] at hstep
        cases hstep
    obtain ⟨m, hm, hgo⟩ := ih (i + 1) (by omega) f' n' hn' (by omega) (by omega)
    refine ⟨m, hm, ?_⟩
    rw [hbody, hgo]
    congr 1
    omega
theorem ibs_split {l : List (Ins × Value)} {b t : List Int} : ∀ i p, l[i]? = some p → ∃ t', b ++ ibs l ++ t = (b ++ ibs (l.take i)) ++ (ib p.1 ++ t') := fun i p hp => by
  have h1 : l = l.take i ++ p :: l.drop (i + 1) := by
    rw [List.getElem?_eq_some_iff] at hp
    obtain ⟨h1, h2⟩ := hp
    rw [← h2, ← List.drop_eq_getElem_cons h1, List.take_append_drop]
  refine ⟨ibs (l.drop (i + 1)) ++ t, ?_⟩
  have h2 : ibs l = ibs (l.take i) ++ (ib p.1 ++ ibs (l.drop (i + 1))) := by
    conv => lhs; rw [h1]
    simp [ibs]
  rw [h2]
  simp
def endI : Ins := ⟨11, 0, 0, 0, []⟩
theorem ib_end : ib endI = [11] := by kernel_rfl
theorem sane_end : saneI endI = true := by kernel_rfl
theorem u64_end : u64R endI.K := (show u64R 0 by unfold u64R; decide)
theorem prd_back {l : List (Ins × Value)} (hu : ∀ p ∈ l, u64R p.1.K) (hS : SaneB l) (b t : List Int) {f : Nat} (hf : l.length < f) : prd (b ++ ibs l ++ (11 :: t)) f (b.length : Int) [] ⟨[], [], []⟩ = (insL l, (((b ++ ibs l).length + 1 : Nat) : Int), 0) := by
  obtain ⟨m, hm, hgo⟩ := prd_go hu hS (b := b) (t := 11 :: t) ibs_split 0 (by omega) f _ rfl (by omega)
  have e0 : (b ++ ibs (l.take 0)).length = b.length := by simp [ibs]
  rw [e0] at hgo
  have e1 : insL (l.take 0) = [] := rfl
  rw [e1] at hgo
  rw [hgo]
  obtain ⟨ms, hms⟩ := hS.1
  have hN := dM_nested hms
  have hmS : m.S = [] := (nst_nested (by rw [opsL_len]; exact hm)).2 hN
  obtain ⟨f', hf'⟩ : ∃ f', f - (l.length - 0) = f' + 1 := ⟨f - l.length - 1, by omega⟩
  rw [hf', prd]
  have hr := rdo_back u64_end sane_end (b ++ ibs l) t
  rw [ib_end] at hr
  have e2 : b ++ ibs l ++ ([11] ++ t) = b ++ ibs l ++ (11 :: t) := rfl
  rw [e2] at hr
  rw [hr]
  simp only
  rw [if_neg (by simp), if_pos ⟨rfl, hmS⟩]
  rfl
end Go.Proofs.YtffegkjlgeblbaaGreatDoor.Bod
end

section
/- May instructions be, by the program: walked. -/
namespace Go.Proofs.YtffegkjlgeblbaaGreatDoor.Bod
open Go.RowKit Ints Typ Ins
set_option maxRecDepth 100000
set_option maxHeartbeats 2000000
set_option linter.unusedVariables false
theorem toodeep_any (d : Int) (w : World) : Calls Tryz.prog 246 #[.int .i64 d] w fun e w' => e = .returned (.bool (decide (32 < d))) ∧ w' = w := by
  go_enter Tryz.func246, Tryz.ntmps246
  go_wp2_with fail
  go_ret
  exact ⟨rfl, rfl⟩
theorem maynot_any {x : Ins} {o : Value} {w : World} (hx : SlI w o x.L) (hu : u64R x.K) (hT : KTab w) : Calls Tryz.prog 254 #[iv x o] w fun e w' => e = .returned (.bool (!saneI x)) ∧ Below w.heap.size w w' := by
  obtain ⟨PL, cL, hpo, _⟩ := id hx
  obtain ⟨nL, hnL⟩ : ∃ nL, x.L.length = nL := ⟨_, rfl⟩
  rw [hnL] at hpo
  subst hpo
  have HX := Lib.hid hx
  have HT := Lib.hid hT
  have HU := Lib.hid hu
  clear hx hT hnL hu
  unfold iv
  go_enter Tryz.func254, Tryz.ntmps254
  go_wp2_with fail
  have hb := (Below.refl w.heap.size w).alloc (Nat.le_refl _) (.cells #[.int .i64 x.op, .int .i64 x.A, .int .i64 x.B, .int .u64 x.K, .slice PL nL cL] 67)
  refine (psane_any (HX.out.keep hb) HU.out (HT.out.keep hb)).mono ?_
  rintro e w1 ⟨rfl, hb1⟩
  have HB := Lib.hid (hb.trans (hb1.mono hb.size))
  clear hb hb1
  go_wp2_with fail
  exact bodyPost_ret (v := .bool (!saneI x)) (by simp [results, Tryz.results254, go_sem]) rfl ⟨rfl, HB.out⟩
theorem idxI_any {L : List Int} {P : Option Addr} {n c : Nat} {w : World} (hn : L.length = n) (hx : SlI w (.slice P n c) L) :
    Calls Tryz.prog 272 #[.slice P n c, .func (.func 246) #[] #[]] w fun e w' => (∃ r : Int, e = .returned (.int .i64 r) ∧ (0 ≤ r ↔ ∃ x ∈ L, 32 < x)) ∧ Below w.heap.size w w' := by
  have hrun : ∀ args W, (callFunc 246 args).run Tryz.prog W = .ok (.enter 246 args) W := fun args W => Stab.run_enter Tryz.func246 (by kernel_rfl) rfl args W
  have N1 := Lib.hid hn
  have HX := Lib.hid hx
  clear hn hx
  go_enter Tryz.func272, Tryz.ntmps272
  go_wp2_with fail
  go_loopw [8] (fun j' wr => ∃ k : Nat, j' = .int .i64 (k : Int) ∧ k ≤ n ∧ (∀ i, i < k → ¬ 32 < L.getD i 0) ∧ wr = w) (fun j' _ => n - (intOf j').toNat)
  case atStart => exact ⟨0, by go_num, Nat.zero_le _, fun i hi => absurd hi (by omega), rfl⟩
  case round =>
    obtain ⟨k, rfl, hk, ht, rfl⟩ := hrel
    have HT := Lib.hid ht
    clear ht
    have hbig := HX.out.len_le
    rw [N1.out] at hbig
    by_cases hlt : k < n
    · obtain ⟨g1, p1, rfl, hc1⟩ := HX.out.at_ (j := k) (by rw [N1.out]; exact hlt)
      have hin1 : (0 : Int) ≤ (k : Int) := by omega
      have hin2 : (k : Int) < (n : Int) := by omega
      have hw1 : IntKind.i64.wrap ((k : Int) + 1) = (k : Int) + 1 := IntWalk.i64_in _ (by omega)
      obtain ⟨u, hu⟩ : ∃ u, L.getD k 0 = u := ⟨_, rfl⟩
      rw [hu] at hc1
      have HU := Lib.hid hu
      clear hu
      cases hq : decide (32 < u) with
      | true =>
        have HQ : Hid (0 ≤ (k : Int) ↔ ∃ x ∈ L, 32 < x) := ⟨fun _ => ⟨u, by rw [← HU.out]; exact getD_mem 0 (by rw [N1.out]; exact hlt), of_decide_eq_true hq⟩, fun _ => by omega⟩
        go_wp2_with fail
        refine (toodeep_any u wr).mono ?_
        rintro e w1 ⟨rfl, rfl⟩
        go_wp2_with fail
        exact bodyPost_ret (v := .int .i64 (k : Int)) (by simp [results, Tryz.results272, go_sem]) rfl ⟨⟨_, rfl, HQ.out⟩, Below.refl _ _⟩
      | false =>
        have HQ : Hid (∀ i, i < k + 1 → ¬ 32 < L.getD i 0) := fun i hi => by
          by_cases e : i = k
          · subst e; rw [HU.out]; exact of_decide_eq_false hq
          · exact HT.out i (by omega)
        go_wp2_with fail
        refine (toodeep_any u wr).mono ?_
        rintro e w1 ⟨rfl, rfl⟩
        go_wp2_with fail
        go_roundw
        case rel => exact ⟨k + 1, by go_num, hlt, (fun i hi => by have := HQ.out i hi; omega), by first | rfl | trivial⟩
        case measure => simp [intOf]; omega
    · obtain rfl : k = n := by omega
      have HQ : Hid (0 ≤ (-1 : Int) ↔ ∃ x ∈ L, 32 < x) := ⟨fun h => absurd h (by decide), fun ⟨x, hx, h⟩ => by
        obtain ⟨i, hi⟩ := List.getElem?_of_mem hx
        have hil := (List.getElem?_eq_some_iff.1 hi).1
        refine absurd ?_ (HT.out i (by rw [← N1.out]; exact hil))
        rw [List.getD_eq_getElem?_getD, hi]
        exact h⟩
      go_wp2_with fail
      exact bodyPost_ret (v := .int .i64 (-1)) (by simp [results, Tryz.results272, go_sem]) rfl ⟨⟨_, rfl, HQ.out⟩, Below.refl _ _⟩
theorem conI_any {L : List Int} {P : Option Addr} {n c : Nat} {w : World} (hn : L.length = n) (hx : SlI w (.slice P n c) L) :
    Calls Tryz.prog 252 #[.slice P n c, .func (.func 246) #[] #[]] w fun e w' => (∃ b : Bool, e = .returned (.bool b) ∧ (b = true ↔ ∃ x ∈ L, 32 < x)) ∧ Below w.heap.size w w' := by
  have HC := Lib.hid (idxI_any hn hx)
  clear hn hx
  go_enter Tryz.func252, Tryz.ntmps252
  go_wp2_with fail
  refine HC.out.mono ?_
  rintro e w1 ⟨⟨r, rfl, hr⟩, hb⟩
  have HR := Lib.hid hr
  have HB := Lib.hid hb
  clear hr hb
  go_wp2_with fail
  exact bodyPost_ret (v := .bool (decide (0 ≤ r))) (by simp [results, Tryz.results252, go_sem]) rfl ⟨⟨_, rfl, by rw [decide_eq_true_iff]; exact HR.out⟩, HB.out⟩
theorem idxR_any {l : List (Ins × Value)} {A : Option Addr} {n c : Nat} {w : World} (hT : KTab w) (hn : l.length = n) (hbig : n ≤ 80000) (hr : InRow w (.slice A n c) l) :
    Calls Tryz.prog 273 #[.slice A n c, .func (.func 254) #[] #[]] w fun e w' => (∃ r : Int, e = .returned (.int .i64 r) ∧ (0 ≤ r ↔ ∃ p ∈ l, saneI p.1 = false)) ∧ Below w.heap.size w w' := by
  have hrun : ∀ args W, (callFunc 254 args).run Tryz.prog W = .ok (.enter 254 args) W := fun args W => Stab.run_enter Tryz.func254 (by kernel_rfl) rfl args W
  have HN := Lib.hid hn
  have HR := Lib.hid hr
  have HT := Lib.hid hT
  clear hn hr hT
  go_enter Tryz.func273, Tryz.ntmps273
  go_wp2_with fail
  go_loopw [8] (fun j' wr => ∃ k : Nat, j' = .int .i64 (k : Int) ∧ k ≤ n ∧ (∀ i, i < k → ∀ p, l[i]? = some p → saneI p.1 = true) ∧ Below w.heap.size w wr) (fun j' _ => n - (intOf j').toNat)
  case atStart => exact ⟨0, by go_num, Nat.zero_le _, fun i hi => absurd hi (by omega), Below.refl _ _⟩
  case round =>
    obtain ⟨k, rfl, hk, ht, hW⟩ := hrel
    have HALL := Lib.hid ht
    have HW := Lib.hid hW
    clear ht hW
    by_cases hlt : k < n
    · obtain ⟨y, hy⟩ : ∃ y, l[k]? = some y := ⟨_, List.getElem?_eq_getElem (by rw [HN.out]; exact hlt)⟩
      have HY := Lib.hid hy
      obtain ⟨g, off, rfl, hC, hO⟩ := (HR.out.keep HW.out).at_ hy
      obtain ⟨PL, cL, hpo, _⟩ := id hO.1
      have HO := Lib.hid hO
      obtain ⟨x, ov⟩ := y
      simp only at hpo
      obtain ⟨nL, hnL⟩ : ∃ nL, x.L.length = nL := ⟨_, rfl⟩
      rw [hnL] at hpo
      subst hpo
      clear hy hnL hO
      obtain ⟨q1, q2, q3, q4, q5⟩ := hC
      simp only at q1 q2 q3 q4 q5
      have HSL : Hid (SlI wr (.slice PL nL cL) x.L) := HO.out.1
      have HU : Hid (u64R x.K) := HO.out.2
      have HTW := Lib.hid (HT.out.keep HW.out)
      have hin1 : (0 : Int) ≤ (k : Int) := by omega
      have hin2 : (k : Int) < (n : Int) := by omega
      have hw1 : IntKind.i64.wrap ((k : Int) + 1) = (k : Int) + 1 := IntWalk.i64_in _ (by omega)
      go_wp2_with fail
      refine (maynot_any HSL.out HU.out HTW.out).mono ?_
      rintro e w1 ⟨rfl, hb⟩
      have HW1 := Lib.hid (HW.out.trans (hb.mono HW.out.size))
      clear hb q1 q2 q3 q4 q5
      cases hs : saneI x with
      | false =>
        have HQ : Hid (0 ≤ (k : Int) ↔ ∃ p ∈ l, saneI p.1 = false) := ⟨fun _ => ⟨_, List.mem_of_getElem? HY.out, hs⟩, fun _ => by omega⟩
        clear hs
        go_wp2_with fail
        exact bodyPost_ret (v := .int .i64 (k : Int)) (by simp [results, Tryz.results273, go_sem]) rfl ⟨⟨_, rfl, HQ.out⟩, HW1.out⟩
      | true =>
        have HQ : Hid (∀ i, i < k + 1 → ∀ p, l[i]? = some p → saneI p.1 = true) := fun i hi p hp => by
          by_cases e : i = k
          · subst e
            rw [HY.out] at hp
            rw [← Option.some.inj hp]
            exact hs
          · exact HALL.out i (by omega) p hp
        clear hs
        go_wp2_with fail
        go_roundw
        case rel => exact ⟨k + 1, by go_num, hlt, HQ.out, HW1.out⟩
        case measure => simp [intOf]; omega
    · obtain rfl : k = n := by omega
      have HQ : Hid (0 ≤ (-1 : Int) ↔ ∃ p ∈ l, saneI p.1 = false) := ⟨fun h => absurd h (by decide), fun ⟨p, hp, h⟩ => by
        obtain ⟨i, hi⟩ := List.getElem?_of_mem hp
        have hil := (List.getElem?_eq_some_iff.1 hi).1
        rw [HALL.out i (by rw [← HN.out]; exact hil) p hi] at h
        cases h⟩
      go_wp2_with fail
      exact bodyPost_ret (v := .int .i64 (-1)) (by simp [results, Tryz.results273, go_sem]) rfl ⟨⟨_, rfl, HQ.out⟩, HW.out⟩
theorem conR_any {l : List (Ins × Value)} {A : Option Addr} {n c : Nat} {w : World} (hT : KTab w) (hn : l.length = n) (hbig : n ≤ 80000) (hr : InRow w (.slice A n c) l) :
    Calls Tryz.prog 253 #[.slice A n c, .func (.func 254) #[] #[]] w fun e w' => (∃ b : Bool, e = .returned (.bool b) ∧ (b = true ↔ ∃ p ∈ l, saneI p.1 = false)) ∧ Below w.heap.size w w' := by
  have HC := Lib.hid (idxR_any hT hn hbig hr)
  clear hn hr hT
  go_enter Tryz.func253, Tryz.ntmps253
  go_wp2_with fail
  refine HC.out.mono ?_
  rintro e w1 ⟨⟨r, rfl, hr⟩, hb⟩
  have HR := Lib.hid hr
  have HB := Lib.hid hb
  clear hr hb
  go_wp2_with fail
  exact bodyPost_ret (v := .bool (decide (0 ≤ r))) (by simp [results, Tryz.results253, go_sem]) rfl ⟨⟨_, rfl, by rw [decide_eq_true_iff]; exact HR.out⟩, HB.out⟩
theorem depL_mem {ops : List Int} {i : Nat} {x : Int} (h : x ∈ depL ops i) : ∃ q, q < i ∧ x = ((aroundD ops q).length : Int) := by
  unfold depL at h
  obtain ⟨q, hq, rfl⟩ := List.mem_map.1 h
  exact ⟨q, by simpa using hq, rfl⟩
theorem mem_depL {ops : List Int} {i q : Nat} (h : q < i) : ((aroundD ops q).length : Int) ∈ depL ops i := by
  unfold depL
  exact List.mem_map.2 ⟨q, by simpa using h, rfl⟩
theorem bsaneP_any {l : List (Ins × Value)} {A : Option Addr} {n c : Nat} {w : World} (hT : KTab w) (hn : l.length = n) (hr : InRow w (.slice A n c) l) :
    Calls Tryz.prog 230 #[.slice A n c] w fun e w' => (∃ b : Bool, e = .returned (.bool b) ∧ (b = true ↔ SaneB l)) ∧ Below w.heap.size w w' := by
  have HN := Lib.hid hn
  have HR := Lib.hid hr
  have HT := Lib.hid hT
  clear hn hr hT
  by_cases h4 : n ≤ 4096
  · have t4 : decide ((4096 : Int) < (n : Int)) = false := decide_eq_false (by omega)
    have HC := Lib.hid (nested_any HT.out HN.out (by omega) HR.out)
    go_enter Tryz.func230, Tryz.ntmps230
    go_wp2_with fail
    refine HC.out.mono ?_
    rintro e w1 ⟨hres, hb⟩
    have HB := Lib.hid hb
    clear HC hb
    cases hd : dM (opsL l) with
    | none =>
      rw [hd] at hres
      obtain rfl := hres
      have HNO : Hid (¬ SaneB l) := fun h => by
        obtain ⟨⟨ms, h1⟩, _⟩ := h
        rw [hd] at h1
        cases h1
      clear hd
      go_wp2_with fail
      exact bodyPost_ret (v := .bool false) (by simp [results, Tryz.results230, go_sem]) rfl ⟨⟨false, rfl, by simpa using HNO.out⟩, HB.out.alloc HB.out.size _⟩
    | some ms =>
      rw [hd] at hres
      have HD := Lib.hid hd
      obtain ⟨vM, vD, vS, rfl, oM, oD, oS⟩ := hres
      have HS := Lib.hid (OwnI.slI oD)
      obtain ⟨P0, e0, hv0⟩ := OwnP.form oM
      obtain ⟨P1, e1, hv1⟩ := OwnI.form oD
      obtain ⟨P2, e2, hv2⟩ := OwnP.form oS
      obtain ⟨k0, hk0⟩ : ∃ k, ms.length = k := ⟨_, rfl⟩
      have hk1 : (depL (opsL l) l.length).length = n := by simp [depL, HN.out]
      rw [hk0] at hv0
      rw [hk1] at hv1
      subst hv0 hv1 hv2
      have HK1 := Lib.hid hk1
      clear hd oM oD oS hk0 hk1
      have HW1 := Lib.hid (HB.out.alloc HB.out.size (.cells #[.slice P0 k0 e0, .slice P1 n e1, .slice P2 0 e2] 258))
      have hal := (Below.refl w1.heap.size w1).alloc (Nat.le_refl _) (.cells #[.slice P0 k0 e0, .slice P1 n e1, .slice P2 0 e2] 258)
      have HCI := Lib.hid (conI_any HK1.out (HS.out.keep hal))
      clear hal
      go_wp2_with fail
      refine HCI.out.mono ?_
      rintro e w2 ⟨⟨b1, rfl, hb1⟩, hb⟩
      have HW2 := Lib.hid (HW1.out.trans (hb.mono HW1.out.size))
      clear hb HCI HW1
      cases b1 with
      | true =>
        have HNO : Hid (¬ SaneB l) := fun h => by
          obtain ⟨x, hx, hx2⟩ := hb1.1 rfl
          obtain ⟨q, hq, rfl⟩ := depL_mem hx
          have := (h.2.2 q _ (List.getElem?_eq_getElem hq)).2
          omega
        clear hb1
        go_wp2_with fail
        exact bodyPost_ret (v := .bool false) (by simp [results, Tryz.results230, go_sem]) rfl ⟨⟨false, rfl, by simpa using HNO.out⟩, HW2.out⟩
      | false =>
        have HDEP : Hid (∀ q, q < l.length → (aroundD (opsL l) q).length ≤ 32) := fun q hq => by
          by_cases hh : (aroundD (opsL l) q).length ≤ 32
          · exact hh
          · have := hb1.2 ⟨_, mem_depL hq, by omega⟩
            cases this
        clear hb1
        have HCR := Lib.hid (conR_any (HT.out.keep HW2.out) HN.out (by omega) (HR.out.keep HW2.out))
        go_wp2_with fail
        refine HCR.out.mono ?_
        rintro e w3 ⟨⟨b2, rfl, hb2⟩, hb⟩
        have HW3 := Lib.hid (HW2.out.trans (hb.mono HW2.out.size))
        have HRS : Hid ((!b2) = true ↔ SaneB l) := by
          show _ ↔ _
          constructor
          · intro h
            refine ⟨⟨ms, HD.out⟩, by rw [HN.out]; exact h4, fun q p hp => ⟨?_, HDEP.out q (List.getElem?_eq_some_iff.1 hp).1⟩⟩
            cases hs : saneI p.1 with
            | true => rfl
            | false =>
              have := hb2.2 ⟨p, List.mem_of_getElem? hp, hs⟩
              rw [this] at h
              cases h
          · intro h
            cases b2 with
            | false => rfl
            | true =>
              obtain ⟨p, hp, hs⟩ := hb2.1 rfl
              obtain ⟨q, hq⟩ := List.getElem?_of_mem hp
              rw [(h.2.2 q p hq).1] at hs
              cases hs
        clear hb hb2 HCR
        go_wp2_with fail
        exact bodyPost_ret (v := .bool (!b2)) (by simp [results, Tryz.results230, go_sem]) rfl ⟨⟨_, rfl, HRS.out⟩, HW3.out⟩
  · have t4 : decide ((4096 : Int) < (n : Int)) = true := decide_eq_true (by omega)
    have HNO : Hid (¬ SaneB l) := fun h => by
      have := h.2.1
      rw [HN.out] at this
      exact h4 this
    go_enter Tryz.func230, Tryz.ntmps230
    go_wp2_with fail
    exact bodyPost_ret (v := .bool false) (by simp [results, Tryz.results230, go_sem]) rfl ⟨⟨false, rfl, by simpa using HNO.out⟩, Below.refl _ _⟩
end Go.Proofs.YtffegkjlgeblbaaGreatDoor.Bod
end
