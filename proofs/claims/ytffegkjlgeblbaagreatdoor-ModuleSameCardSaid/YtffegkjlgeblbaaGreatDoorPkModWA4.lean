/- ModBk, ModRunsM, ModBk2, ModWA4. -/
import Derived.Test.YtffegkjlgeblbaaGreatDoorPkModPList
import Derived.Test.YtffegkjlgeblbaaGreatDoorPkModWLI
import Derived.Test.YtffegkjlgeblbaaGreatDoorPkBodSaneP
import Derived.Test.YtffegkjlgeblbaaGreatDoorPkInsPTabs
import Derived.Test.YtffegkjlgeblbaaGreatDoorPkModSFElem
import Derived.Test.YtffegkjlgeblbaaGreatDoorPkModCount
import Derived.Test.YtffegkjlgeblbaaGreatDoorPkBodTurn
import Derived.Test.YtffegkjlgeblbaaGreatDoorPkSecMath
import Derived.Test.YtffegkjlgeblbaaGreatDoorPkModEq
import Derived.Test.YtffegkjlgeblbaaGreatDoorPkModLd
import Derived.Test.YtffegkjlgeblbaaGreatDoorPkUtfCame
import Derived.Test.YtffegkjlgeblbaaGreatDoorPkTypPutL
import Derived.Test.YtffegkjlgeblbaaGreatDoorPkTypSame
import Derived.Test.YtffegkjlgeblbaaGreatDoorBodPutP
section
/- What the writer lays the reader reads: the parts, plain. -/
namespace Go.Proofs.YtffegkjlgeblbaaGreatDoor.Mdl
open Go.RowKit Ints Typ Ins
set_option maxRecDepth 100000
set_option maxHeartbeats 1000000
set_option linter.unusedVariables false
theorem drop_split {l x t : List Int} {a : Nat} (h : l.drop a = x ++ t) (hx : x ≠ []) : ∃ b, l = b ++ (x ++ t) ∧ b.length = a := by
  refine ⟨l.take a, by rw [← h, List.take_append_drop], ?_⟩
  rw [List.length_take]
  rcases Nat.lt_or_ge l.length a with h1 | h1
  · rw [List.drop_of_length_le (by omega)] at h
    have := congrArg List.length h
    rw [List.length_append] at this
    have h2 : x.length = 0 := by rw [List.length_nil] at this; omega
    exact absurd (List.length_eq_zero_iff.1 h2) hx
  · omega
theorem drop_on {l x t : List Int} {a : Nat} (h : l.drop a = x ++ t) : l.drop (a + x.length) = t := by rw [← List.drop_drop, h, List.drop_left]
theorem uB_ne (n : Nat) : Leb.uB n ≠ [] := by
  intro e
  have h := Leb.uB_len n
  have h2 := Leb.lenU_pos n
  rw [e] at h
  simp at h
  omega
theorem ru_back {n : Nat} (hn : n < 4294967296) {l t : List Int} {a : Nat} (h : l.drop a = Leb.uB n ++ t) : ru l a 0 = ((n : Int), a + (Leb.uB n).length, 0) := by
  unfold ru
  rw [if_neg (by simp), h, back32 hn t]
  show ((n : Int), a + 7 * Leb.lenU n / 7, (0 : Int)) = _
  rw [div7, Leb.uB_len]
theorem okU_nn {v : Int} (h : okU v = true) : v = (v.toNat : Int) ∧ v.toNat < 4294967296 := by
  unfold okU at h
  have := of_decide_eq_true h
  omega
theorem ruI_back {v : Int} (hv : okU v = true) {l t : List Int} {a : Nat} (h : l.drop a = numB v ++ t) : ru l a 0 = (v, a + (numB v).length, 0) := by
  obtain ⟨h1, h2⟩ := okU_nn hv
  have := ru_back h2 (t := t) (l := l) (a := a) h
  rw [← h1] at this
  exact this
theorem nm_backM (a s t : List Int) (hn : s.length ≤ 64) (hf : Utf.fltE s = 0) : Utf.nm (a ++ (Leb.uB s.length ++ s ++ t)) (a.length : Int) = (s, ((a.length + 1 + s.length : Nat) : Int), 0) := by
  have hu : (Leb.uB s.length).length = 1 := by rw [Leb.uB_len, Leb.lenU_small (by omega)]
  have hbad : Leb.badArg (a ++ (Leb.uB s.length ++ s ++ t)) (a.length : Int) 32 = false := by
    unfold Leb.badArg
    simp
    omega
  unfold Utf.nm
  rw [hbad, if_neg (by simp), Int.toNat_natCast]
  unfold Utf.nmK
  rw [show (a ++ (Leb.uB s.length ++ s ++ t)).drop a.length = Leb.uB s.length ++ (s ++ t) from by rw [List.drop_left, List.append_assoc], back32 (by omega), Leb.lenU_small (by omega)]
  show Utf.nmA _ s.length (a.length + 7 * 1 / 7) = _
  unfold Utf.nmA
  have hd : ((a ++ (Leb.uB s.length ++ s ++ t)).drop (a.length + 7 * 1 / 7)).take s.length = s := by
    rw [← List.drop_drop, List.drop_left, show 7 * 1 / 7 = (Leb.uB s.length).length from by rw [hu], List.append_assoc, List.drop_left, List.take_left]
  rw [if_neg (by simp [hu]; omega), hd, hf]
  show (s, _, (0 : Int)) = _
  rw [show ((a.length + 7 * 1 / 7 : Nat) : Int) + (s.length : Int) = ((a.length + 1 + s.length : Nat) : Int) from by omega]
theorem flt_len {s : List Int} (h : Utf.fltE s = 0) : s.length ≤ 64 := by
  unfold Utf.fltE at h
  by_cases h1 : 64 < s.length
  · rw [decide_eq_true h1] at h
    exact absurd (show (4 : Int) = 0 from h) (by decide)
  · omega
theorem rnm_back {s : List Int} (hf : Utf.fltE s = 0) {l t : List Int} {a : Nat} (h : l.drop a = (Leb.uB s.length ++ s) ++ t) : rnmM l a 0 = (s, a + (Leb.uB s.length ++ s).length, 0) := by
  have hn := flt_len hf
  obtain ⟨b, rfl, rfl⟩ := drop_split h (by simp [uB_ne])
  have hu : (Leb.uB s.length).length = 1 := by rw [Leb.uB_len, Leb.lenU_small (by omega)]
  unfold rnmM
  rw [if_neg (by simp), nm_backM b s t hn hf]
  show (s, nx b.length ((b.length + 1 + s.length : Nat) : Int), (0 : Int)) = _
  rw [List.length_append, hu]
  unfold nx
  rw [Int.toNat_natCast, Nat.max_eq_right (by omega), Nat.add_assoc]
theorem rb_back {c : Int} {l t : List Int} {a : Nat} (h : l.drop a = [c] ++ t) : rb l a 0 = (c, a + 1, 0) := rb_at h
theorem vl_back {v : Int} (hv : isV v = true) {l t : List Int} {a : Nat} (h : l.drop a = [v] ++ t) : vl l (a : Int) = (v, (a : Int) + 1, 0) := by
  obtain ⟨b, rfl, rfl⟩ := drop_split h (by simp)
  rw [vl_in (by simp)]
  have : (b ++ ([v] ++ t)).getD b.length 0 = v := by simp [List.getD_eq_getElem?_getD]
  rw [this, hv]
  rfl
theorem rval_back {v : Int} (hv : isV v = true) {l t : List Int} {a : Nat} (h : l.drop a = [v] ++ t) : rvalM l a 0 = (v, a + 1, 0) := by
  unfold rvalM
  rw [if_neg (by simp), vl_back hv h]
  show (v, nx a ((a : Int) + 1), (0 : Int)) = _
  unfold nx
  rw [show ((a : Int) + 1).toNat = a + 1 from by omega, Nat.max_eq_right (by omega)]
theorem rflag_back {m c : Int} (hc : c ≤ m) {l t : List Int} {a : Nat} (h : l.drop a = [c] ++ t) : rflagM m l a 0 = (c, a + 1, 0) := by
  unfold rflagM
  rw [rb_back h]
  simp only
  rw [decide_eq_false (by omega)]
  rfl
theorem rfl_back {m : Bool} {l t : List Int} {a : Nat} (h : l.drop a = flB m ++ t) : ((rflagM 1 l a 0).1 == 1) = m ∧ (rflagM 1 l a 0).2 = (a + (flB m).length, 0) := by
  cases m with
  | true => rw [rflag_back (c := 1) (by omega) h]; exact ⟨rfl, rfl⟩
  | false => rw [rflag_back (c := 0) (by omega) h]; exact ⟨rfl, rfl⟩
theorem okK_in {k : Int} (h : okK k = true) : k ≤ 3 ∧ numB k = [k] := by
  unfold okK at h
  rw [Bool.and_eq_true] at h
  have h1 := of_decide_eq_true h.1
  obtain ⟨h2, h3⟩ := okU_nn h.2
  refine ⟨h1, ?_⟩
  unfold numB
  rw [Leb.uB_small (by omega), ← h2]
theorem rkind_back {k : Int} (hk : okK k = true) {l t : List Int} {a : Nat} (h : l.drop a = numB k ++ t) : rflagM 3 l a 0 = (k, a + (numB k).length, 0) := by
  obtain ⟨h1, h2⟩ := okK_in hk
  rw [h2] at h ⊢
  exact rflag_back h1 h
theorem nx_add (a n : Nat) : nx a ((a + n : Nat) : Int) = a + n := by
  unfold nx
  rw [Int.toNat_natCast, Nat.max_eq_right (by omega)]
theorem lm_backT {b t : List Int} {m x : Int} {h : Bool} (ho : okL m x h = true) : lm (b ++ (limB m x h ++ t)) (b.length : Int) = (m, x, h, ((b.length + (limB m x h).length : Nat) : Int), 0) := by
  obtain ⟨e1, e2, h1, h2, h0⟩ := okL_nat ho
  unfold limB
  cases h with
  | false =>
    have hx := h0 rfl
    show lm (b ++ 0 :: (Leb.uB m.toNat ++ t)) _ = (m, x, false, ((b.length + (0 :: Leb.uB m.toNat).length : Nat) : Int), 0)
    rw [lm_head b _ 0 (.inl rfl), back32 h1]
    rw [lm1_zero, div7, ← e1, hx, List.length_cons, Leb.uB_len]
    rw [show b.length + 1 + Leb.lenU m.toNat = b.length + (Leb.lenU m.toNat + 1) from by omega]
  | true =>
    show lm (b ++ (([1] ++ Leb.uB m.toNat ++ Leb.uB x.toNat) ++ t)) _ = (m, x, true, ((b.length + (1 :: (Leb.uB m.toNat ++ Leb.uB x.toNat)).length : Nat) : Int), 0)
    rw [show (([1] ++ Leb.uB m.toNat ++ Leb.uB x.toNat) ++ t : List Int) = 1 :: (Leb.uB m.toNat ++ (Leb.uB x.toNat ++ t)) from by simp, lm_head b _ 1 (.inr rfl), back32 h1]
    rw [lm1_one, div7]
    have hd : (b ++ 1 :: (Leb.uB m.toNat ++ (Leb.uB x.toNat ++ t))).drop (b.length + 1 + Leb.lenU m.toNat) = Leb.uB x.toNat ++ t := by
      rw [← List.drop_drop, drop_front, ← Leb.uB_len, List.drop_left]
    rw [hd, back32 h2]
    show ((m.toNat : Int), (x.toNat : Int), true, ((b.length + 1 + Leb.lenU m.toNat + 7 * Leb.lenU x.toNat / 7 : Nat) : Int), (0 : Int)) = _
    rw [div7, ← e1, ← e2, List.length_cons, List.length_append, Leb.uB_len, Leb.uB_len]
    rw [show b.length + 1 + Leb.lenU m.toNat + Leb.lenU x.toNat = b.length + (Leb.lenU m.toNat + Leb.lenU x.toNat + 1) from by omega]
theorem limB_ne (x y : Int) (z : Bool) : limB x y z ≠ [] := by cases z <;> simp [limB]
theorem rlim_back {x y : Int} {z : Bool} (ho : okL x y z = true) {l t : List Int} {a : Nat} (h : l.drop a = limB x y z ++ t) : rlimM l a 0 = ((x, y, z), a + (limB x y z).length, 0) := by
  obtain ⟨b, rfl, rfl⟩ := drop_split h (limB_ne x y z)
  unfold rlimM
  rw [if_neg (by simp), lm_backT ho]
  show ((x, y, z), nx b.length ((b.length + (limB x y z).length : Nat) : Int), (0 : Int)) = _
  rw [nx_add]
theorem rtab_back {x y : Int} {z : Bool} (ho : okL x y z = true) {l t : List Int} {a : Nat} (h : l.drop a = (112 :: limB x y z) ++ t) : rtabM l a 0 = ((x, y, z), a + (112 :: limB x y z).length, 0) := by
  unfold rtabM
  have h1 : rb l a 0 = (112, a + 1, 0) := rb_back (t := limB x y z ++ t) (by rw [h]; rfl)
  rw [h1]
  show rlimM l (a + 1) 0 = _
  rw [rlim_back ho (t := t) (by rw [← List.drop_drop, h]; rfl), List.length_cons, Nat.add_assoc, Nat.add_comm 1]
theorem fn_backT {b t p r : List Int} (h : sane p r = true) : fn (b ++ (fnB p r ++ t)) (b.length : Int) = (p, r, ((b.length + (fnB p r).length : Nat) : Int), 0) := by
  obtain ⟨h1, h2, h3, h4⟩ := sane_parts h
  have hl := fnB_len h1 h2
  rw [hl, fnB_eq h1 h2]
  rw [show (96 :: (p.length : Int) :: (p ++ (r.length : Int) :: r)) ++ t = 96 :: ((p.length : Int) :: (p ++ (r.length : Int) :: (r ++ t))) from by simp, fn_head]
  generalize hL : b ++ 96 :: (p.length : Int) :: (p ++ (r.length : Int) :: (r ++ t)) = L
  have hd : L.drop (b.length + 1) = (p.length : Int) :: (p ++ (r.length : Int) :: (r ++ t)) := by rw [← hL]; exact drop_front _ _ _
  rw [vs_back hd h1 (by omega) h3]
  have hd2 : L.drop (b.length + 1 + 1 + p.length) = (r.length : Int) :: (r ++ t) := by
    rw [Nat.add_assoc (b.length + 1), ← List.drop_drop, hd, Nat.add_comm 1, List.drop_succ_cons, List.drop_left]
  unfold fn1
  rw [if_neg (by simp)]
  show fn2 p (vs L (Int.toNat ((b.length + 1 + 1 + p.length : Nat) : Int)) 1) = _
  rw [Int.toNat_natCast, vs_back hd2 (by omega) (by omega) h4]
  unfold fn2
  rw [if_neg (by simp)]
  show (p, r, ((b.length + 1 + 1 + p.length + 1 + r.length : Nat) : Int), (0 : Int)) = (p, r, ((b.length + (3 + p.length + r.length) : Nat) : Int), 0)
  rw [show b.length + 1 + 1 + p.length + 1 + r.length = b.length + (3 + p.length + r.length) from by omega]
theorem rtyp_back {p r : List Int} (ho : sane p r = true) {l t : List Int} {a : Nat} (h : l.drop a = fnB p r ++ t) : rtypM l a 0 = ((p, r), a + (fnB p r).length, 0) := by
  obtain ⟨b, rfl, rfl⟩ := drop_split h (by unfold fnB; simp)
  unfold rtypM
  rw [fn_backT ho]
  show ((p, r), nx b.length ((b.length + (fnB p r).length : Nat) : Int), (0 : Int)) = _
  rw [nx_add]
def wv (L : List Ins) : List (Ins × Value) := L.map fun x => (x, .slice none 0 0)
theorem wv_ins (L : List Ins) : Bod.insL (wv L) = L := by unfold Bod.insL wv; rw [List.map_map]; exact List.map_id _
theorem wv_ops (l : List (Ins × Value)) : Bod.opsL (wv (Bod.insL l)) = Bod.opsL l := by unfold Bod.opsL wv Bod.insL; rw [List.map_map, List.map_map]; rfl
theorem wv_ibs (l : List (Ins × Value)) : Bod.ibs (wv (Bod.insL l)) = Bod.ibs l := by unfold Bod.ibs wv Bod.insL; rw [List.map_map, List.flatMap_map]; rfl
theorem wv_sane (l : List (Ins × Value)) : Bod.SaneB (wv (Bod.insL l)) ↔ Bod.SaneB l := by
  unfold Bod.SaneB
  rw [wv_ops]
  have hlen : (wv (Bod.insL l)).length = l.length := by simp [wv, Bod.insL]
  rw [hlen]
  refine ⟨fun ⟨h1, h2, h3⟩ => ⟨h1, h2, fun q p hp => h3 q (p.1, .slice none 0 0) ?_⟩, fun ⟨h1, h2, h3⟩ => ⟨h1, h2, fun q p hp => ?_⟩⟩
  · simp [wv, Bod.insL, hp]
  · have : ∃ p', l[q]? = some p' ∧ p'.1 = p.1 := by
      simp [wv, Bod.insL] at hp
      obtain ⟨a, ⟨x, h1⟩, h2⟩ := hp
      exact ⟨(a, x), h1, by rw [← h2]⟩
    obtain ⟨p', h4, h5⟩ := this
    rw [← h5]
    exact h3 q p' h4
open Classical in
/-- May a body be? -/
noncomputable def okB (L : List Ins) : Bool := decide (Bod.SaneB (wv L))
open Classical in
theorem okB_iff {L : List Ins} : okB L = true ↔ Bod.SaneB (wv L) := by unfold okB; exact decide_eq_true_iff
def bdB (L : List Ins) : List Int := Bod.ibs (wv L) ++ [11]
theorem bdB_ne (L : List Ins) : bdB L ≠ [] := by simp [bdB]
theorem rcode_back {L : List Ins} (hu : ∀ x ∈ L, u64R x.K) (hS : okB L = true) {l t : List Int} {a : Nat} (h : l.drop a = bdB L ++ t) : rcodeM l a 0 = (L, a + (bdB L).length, 0) := by
  have hS2 := okB_iff.1 hS
  obtain ⟨b, rfl, rfl⟩ := drop_split h (bdB_ne L)
  unfold rcodeM
  have hp := Bod.prd_back (l := wv L) (fun p hp => by
    obtain ⟨x, hx, rfl⟩ := List.mem_map.1 hp
    exact hu x hx) hS2 b t (f := 4098) (by have := hS2.2.1; omega)
  rw [Bod.prd_drd0, wv_ins] at hp
  rw [show b ++ (bdB L ++ t) = b ++ Bod.ibs (wv L) ++ (11 :: t) from by simp [bdB], if_neg (by simp), hp]
  show (L, nx b.length (((b ++ Bod.ibs (wv L)).length + 1 : Nat) : Int), (0 : Int)) = _
  rw [show (b ++ Bod.ibs (wv L)).length + 1 = b.length + (bdB L).length from by simp [bdB]; omega, nx_add]
theorem okX_ok {x : Ins} (h : okX x = true) : okB [x] = true ∧ isX x.op = true := by
  unfold okX at h
  rw [Bool.and_eq_true] at h
  refine ⟨?_, h.1⟩
  exact okB_iff.2 ((sane_one h.1).2 h.2)
theorem bdB_one (x : Ins) : bdB [x] = ib x ++ [11] := by simp [bdB, wv, Bod.ibs]
theorem rexpr_back {x : Ins} (hu : u64R x.K) (hx : okX x = true) {l t : List Int} {a : Nat} (h : l.drop a = (ib x ++ [11]) ++ t) : rexprM l a 0 = (x, a + (ib x ++ [11]).length, 0) := by
  obtain ⟨h1, h2⟩ := okX_ok hx
  unfold rexprM
  rw [rcode_back (L := [x]) (fun y hy => by rw [List.mem_singleton.1 hy]; exact hu) h1 (by rw [bdB_one]; exact h), bdB_one]
  unfold exprE
  rw [if_neg (by simp), if_pos ⟨rfl, h2⟩]
  rfl
theorem nums_back {l : List Int} : ∀ (L : List Int) (a : Nat) (out t : List Int), L.all okU = true → l.drop a = L.flatMap numB ++ t → numsM l L.length a 0 out = (out ++ L, a + (L.flatMap numB).length, 0)
  | [], a, out, t, _, _ => by simp [numsM]
  | v :: L, a, out, t, hk, h => by
    rw [List.all_cons, Bool.and_eq_true] at hk
    rw [List.flatMap_cons, List.append_assoc] at h
    rw [List.length_cons, numsM, ruI_back hk.1 h]
    simp only
    rw [nums_back L _ _ t hk.2 (drop_on h), List.flatMap_cons, List.length_append]
    simp [Nat.add_assoc]
theorem rmany_back {m : Int} {n : Nat} (hn : (n : Int) ≤ m) (hm : m ≤ 1000) {l t : List Int} {a : Nat} (h : l.drop a = Leb.uB n ++ t) : rmanyM m l a 0 = ((n : Int), a + (Leb.uB n).length, 0) := by
  unfold rmanyM
  rw [ru_back (by omega) h]
  simp only
  rw [decide_eq_false (by omega)]
  rfl
theorem rnums_back {m : Int} (hm : m ≤ 1000) {L : List Int} (hn : (L.length : Int) ≤ m) (hk : L.all okU = true) {l t : List Int} {a : Nat} (h : l.drop a = (Leb.uB L.length ++ L.flatMap numB) ++ t) : rnumsM m l a 0 = (L, a + (Leb.uB L.length ++ L.flatMap numB).length, 0) := by
  rw [List.append_assoc] at h
  unfold rnumsM
  rw [rmany_back hn hm h]
  simp only
  rw [Int.toNat_natCast, nums_back L _ _ t hk (drop_on h), List.length_append]
  simp [Nat.add_assoc]
theorem loop_back {α β : Type} (M : List Int → Nat → Int → β × Nat × Int) (xf : α → List Int) (pl : α → β) {l : List Int} : ∀ (L : List α) (a : Nat) (out : List β) (t : List Int), (∀ p ∈ L, ∀ a t, l.drop a = xf p ++ t → M l a 0 = (pl p, a + (xf p).length, 0)) → l.drop a = L.flatMap xf ++ t →
    loopM (M l) L.length a 0 out = (out ++ L.map pl, a + (L.flatMap xf).length, 0)
  | [], a, out, t, _, _ => by simp [loopM]
  | p :: L, a, out, t, hp, h => by
    rw [List.flatMap_cons, List.append_assoc] at h
    rw [List.length_cons, loopM_ok, hp p (List.mem_cons_self ..) a _ h]
    simp only
    rw [loop_back M xf pl L _ _ t (fun q hq => hp q (List.mem_cons_of_mem _ hq)) (drop_on h), List.flatMap_cons, List.length_append]
    simp [Nat.add_assoc]
theorem many_back {α β : Type} (M : List Int → Nat → Int → β × Nat × Int) (xf : α → List Int) (pl : α → β) {m : Int} (hm : m ≤ 1000) {L : List α} (hn : (L.length : Int) ≤ m) {l t : List Int} {a : Nat} (hp : ∀ p ∈ L, ∀ a t, l.drop a = xf p ++ t → M l a 0 = (pl p, a + (xf p).length, 0))
    (h : l.drop a = (Leb.uB L.length ++ L.flatMap xf) ++ t) : manyM m M l a 0 = (L.map pl, a + (Leb.uB L.length ++ L.flatMap xf).length, 0) := by
  rw [List.append_assoc] at h
  unfold manyM
  rw [rmany_back hn hm h]
  simp only
  rw [Int.toNat_natCast, loop_back M xf pl L _ _ t hp (drop_on h), List.length_append]
  simp [Nat.add_assoc]
end Go.Proofs.YtffegkjlgeblbaaGreatDoor.Mdl
end

section
/- Runs, plainly: what they are of; and what a module counts. -/
namespace Go.Proofs.YtffegkjlgeblbaaGreatDoor.Mdl
open Go.RowKit Ints Typ Ins
set_option maxRecDepth 100000
set_option maxHeartbeats 1000000
set_option linter.unusedVariables false
def exR (q : List (Int × Int)) : List Int := q.flatMap fun p => List.replicate p.1.toNat p.2
def adjR (s : List Int) : Prop := ∀ i a b, s[i]? = some a → s[i + 1]? = some b → b ≠ a
structure RInv (l : List Int) (q : List (Int × Int)) : Prop where
  pos : ∀ p ∈ q, 1 ≤ p.1
  ex : exR q = l
  adj : adjR (q.map (·.2))
theorem exR_app (a b : List (Int × Int)) : exR (a ++ b) = exR a ++ exR b := by unfold exR; rw [List.flatMap_append]
theorem exR_one (c y : Int) : exR [(c, y)] = List.replicate c.toNat y := by simp [exR]
theorem adj_app {s : List Int} {y x : Int} (h : adjR (s ++ [y])) (hn : y ≠ x) : adjR (s ++ [y] ++ [x]) := by
  intro i a b ha hb
  have hlen : (s ++ [y]).length = s.length + 1 := by simp
  by_cases hi : i + 1 < s.length + 1
  · rw [List.getElem?_append_left (by rw [hlen]; omega)] at ha hb
    exact h i a b ha hb
  · have hlt := (List.getElem?_eq_some_iff.1 hb).1
    rw [List.length_append, hlen] at hlt
    simp at hlt
    obtain rfl : i = s.length := by omega
    rw [List.getElem?_append_right (by rw [hlen]; omega), hlen] at hb
    rw [List.getElem?_append_left (by rw [hlen]; omega), List.getElem?_append_right (Nat.le_refl _)] at ha
    simp at ha hb
    subst ha hb
    exact fun e => hn e.symm
theorem rinv_step {l : List Int} {q : List (Int × Int)} {x : Int} (h : RInv l q) : RInv (l ++ [x]) (rstep q x) := by
  rcases List.eq_nil_or_concat q with rfl | ⟨p, ⟨c, y⟩, rfl⟩
  · have h1 := h.ex
    simp [exR] at h1
    subst h1
    rw [rstep_new]
    exact ⟨by simp, by simp [exR], fun i a b ha hb => by simp at hb⟩
  · rw [List.concat_eq_append] at h ⊢
    by_cases hy : y = x
    · subst hy
      rw [rstep_more]
      have hc : 1 ≤ c := h.pos (c, y) (by simp)
      refine ⟨fun r hr => ?_, ?_, ?_⟩
      · rcases List.mem_append.1 hr with hr | hr
        · exact h.pos r (by simp [hr])
        · rw [List.mem_singleton.1 hr]
          simp only
          omega
      · have h1 := h.ex
        rw [exR_app, exR_one] at h1 ⊢
        rw [← h1, show (c + 1).toNat = c.toNat + 1 from by omega, List.replicate_succ', List.append_assoc]
      · have h1 := h.adj
        simpa using h1
    · rw [rstep_other _ _ _ _ hy]
      refine ⟨fun r hr => ?_, ?_, ?_⟩
      · rcases List.mem_append.1 hr with hr | hr
        · exact h.pos r hr
        · rw [List.mem_singleton.1 hr]
          simp only
          omega
      · rw [exR_app, h.ex, exR_one]
        rfl
      · have h1 := h.adj
        rw [List.map_append, List.map_singleton] at h1 ⊢
        rw [List.map_append, List.map_singleton]
        exact adj_app h1 hy
theorem rinv_fold : ∀ (r l : List Int) (q : List (Int × Int)), RInv l q → RInv (l ++ r) (r.foldl rstep q)
  | [], l, q, h => by rw [List.append_nil]; exact h
  | x :: r, l, q, h => by
    have := rinv_fold r (l ++ [x]) (rstep q x) (rinv_step h)
    rw [List.append_assoc] at this
    exact this
theorem rinv (l : List Int) : RInv l (runs l) := rinv_fold l [] [] ⟨by simp, rfl, fun i a b ha _ => by simp at ha⟩
end Go.Proofs.YtffegkjlgeblbaaGreatDoor.Mdl
end

section
/- What the writer lays the reader reads: the things of lists, plain. -/
namespace Go.Proofs.YtffegkjlgeblbaaGreatDoor.Mdl
open Go.RowKit Ints Typ Ins
set_option maxRecDepth 100000
set_option maxHeartbeats 1000000
set_option linter.unusedVariables false
def impTl (p : ImpT) : List Int := if p.kind = 0 then numB p.ty else if p.kind = 1 then 112 :: limB p.lim.1 p.lim.2.1 p.lim.2.2 else if p.kind = 2 then limB p.lim.1 p.lim.2.1 p.lim.2.2 else if p.kind = 3 then [p.val] ++ flB p.mt else []
def okTl (p : ImpT) : Bool := if p.kind = 0 then okU p.ty else if p.kind = 1 then okL p.lim.1 p.lim.2.1 p.lim.2.2 else if p.kind = 2 then okL p.lim.1 p.lim.2.1 p.lim.2.2 else if p.kind = 3 then isV p.val else true
def okOwn (p : ImpT) : Bool := (decide (p.kind = 0) || decide (p.ty = 0)) && (decide (p.kind = 1 ∨ p.kind = 2) || decide (p.lim = (0, 0, false))) && (decide (p.kind = 3) || decide (p.val = 0 ∧ p.mt = false))
noncomputable def okI (p : ImpT) : Bool := okOwn p && okN p.md && okN p.nm && okK p.kind && okTl p
noncomputable def impB (p : ImpT) : List Int := nmB p.md ++ nmB p.nm ++ numB p.kind ++ impTl p
theorem okN_in {s : ByteArray} (h : okN s = true) : Utf.fltE (Utf.bl s) = 0 := of_decide_eq_true h
theorem rimp_back {p : ImpT} (ho : okI p = true) {l t : List Int} {a : Nat} (h : l.drop a = impB p ++ t) : rimpM l a 0 = (p, a + (impB p).length, 0) := by
  unfold okI at ho
  rw [Bool.and_eq_true, Bool.and_eq_true, Bool.and_eq_true, Bool.and_eq_true] at ho
  obtain ⟨⟨⟨⟨h1, h2⟩, h3⟩, h4⟩, h5⟩ := ho
  unfold impB at h ⊢
  rw [List.append_assoc, List.append_assoc, List.append_assoc] at h
  have e1 := rnm_back (okN_in h2) (l := l) (a := a) h
  have d1 : l.drop (a + (nmB p.md).length) = nmB p.nm ++ (numB p.kind ++ (impTl p ++ t)) := drop_on h
  have e2 := rnm_back (okN_in h3) (l := l) d1
  have d2 := drop_on d1
  have e3 := rkind_back h4 d2
  have d3 := drop_on d2
  unfold rimpM
  rw [e1]
  simp only
  rw [show (Leb.uB (Utf.bl p.md).length ++ Utf.bl p.md).length = (nmB p.md).length from rfl, e2]
  unfold impNm
  simp only
  rw [show (Leb.uB (Utf.bl p.nm).length ++ Utf.bl p.nm).length = (nmB p.nm).length from rfl, e3, Utf.str_bl, Utf.str_bl]
  simp only
  obtain ⟨md, nm, kind, ty, ⟨lx, ly, lz⟩, val, mt⟩ := p
  simp only at h1 h4 h5 d3 ⊢
  obtain ⟨a3, ha3⟩ : ∃ a3, a + (nmB md).length + (nmB nm).length + (numB kind).length = a3 := ⟨_, rfl⟩
  rw [ha3] at d3 ⊢
  have hlen : a + (nmB md ++ nmB nm ++ numB kind ++ impTl ⟨md, nm, kind, ty, (lx, ly, lz), val, mt⟩).length = a3 + (impTl ⟨md, nm, kind, ty, (lx, ly, lz), val, mt⟩).length := by rw [← ha3]; simp [Nat.add_assoc]
  rw [hlen]
  obtain ⟨k1, _⟩ := okK_in h4
  unfold okOwn at h1
  simp only [Bool.and_eq_true, Bool.or_eq_true, decide_eq_true_eq] at h1
  obtain ⟨⟨g1, g2⟩, g3⟩ := h1
  have hk : kind = 0 ∨ kind = 1 ∨ kind = 2 ∨ kind = 3 := by
    have := (okU_nn (by unfold okK at h4; rw [Bool.and_eq_true] at h4; exact h4.2)).1
    omega
  unfold impK
  rcases hk with rfl | rfl | rfl | rfl
  · have d4 : l.drop a3 = numB ty ++ t := d3
    have k5 : okU ty = true := h5
    rw [if_pos rfl, ruI_back k5 d4]
    obtain g2 := g2.resolve_left (by omega)
    obtain ⟨g3, g4⟩ := g3.resolve_left (by omega)
    cases g2
    subst g3 g4
    rfl
  · have d4 : l.drop a3 = (112 :: limB lx ly lz) ++ t := d3
    have k5 : okL lx ly lz = true := h5
    rw [if_neg (by omega), if_pos rfl, rtab_back k5 d4]
    obtain g1 := g1.resolve_left (by omega)
    obtain ⟨g3, g4⟩ := g3.resolve_left (by omega)
    subst g1 g3 g4
    rfl
  · have d4 : l.drop a3 = limB lx ly lz ++ t := d3
    have k5 : okL lx ly lz = true := h5
    rw [if_neg (by omega), if_neg (by omega), if_pos rfl, rlim_back k5 d4]
    obtain g1 := g1.resolve_left (by omega)
    obtain ⟨g3, g4⟩ := g3.resolve_left (by omega)
    subst g1 g3 g4
    rfl
  · have d4 : l.drop a3 = [val] ++ (flB mt ++ t) := by rw [d3]; show ([val] ++ flB mt) ++ t = _; rw [List.append_assoc]
    have k5 : isV val = true := h5
    rw [if_neg (by omega), if_neg (by omega), if_neg (by omega), if_pos rfl, rval_back k5 d4]
    simp only
    obtain ⟨q1, q2⟩ := rfl_back (m := mt) (l := l) (a := a3 + 1) (t := t) (drop_on d4)
    rw [q1, q2]
    obtain g1 := g1.resolve_left (by omega)
    obtain g2 := g2.resolve_left (by omega)
    cases g2
    subst g1
    show (_, a3 + 1 + (flB mt).length, (0 : Int)) = (_, a3 + ([val] ++ flB mt).length, 0)
    rw [List.length_append, List.length_singleton, Nat.add_assoc]
abbrev PGlb := Int × Bool × Ins
def okG (p : PGlb) : Bool := isV p.1 && okX p.2.2
def glbB (p : PGlb) : List Int := [p.1] ++ flB p.2.1 ++ (ib p.2.2 ++ [11])
theorem rglb_back {p : PGlb} (hu : u64R p.2.2.K) (ho : okG p = true) {l t : List Int} {a : Nat} (h : l.drop a = glbB p ++ t) : rglbM l a 0 = (p, a + (glbB p).length, 0) := by
  unfold okG at ho
  rw [Bool.and_eq_true] at ho
  unfold glbB at h ⊢
  rw [List.append_assoc, List.append_assoc] at h
  have e1 := rval_back ho.1 h
  have d1 := drop_on h
  obtain ⟨q1, q2⟩ := rfl_back (l := l) d1
  have e3 := rexpr_back hu ho.2 (drop_on d1)
  unfold rglbM
  rw [e1]
  simp only
  rw [show a + 1 = a + ([p.1] : List Int).length from rfl]
  obtain ⟨f, hf⟩ : ∃ f, rflagM 1 l (a + ([p.1] : List Int).length) 0 = f := ⟨_, rfl⟩
  rw [hf] at q1 q2 ⊢
  obtain ⟨f1, f2⟩ := f
  simp only at q1 q2
  subst q2
  unfold glbE
  simp only
  rw [q1, e3]
  refine Prod.ext rfl (Prod.ext ?_ rfl)
  simp only [List.length_append]
  omega
noncomputable def okE (p : ExpT) : Bool := okN p.1 && okK p.2.1 && okU p.2.2
noncomputable def expB (p : ExpT) : List Int := nmB p.1 ++ numB p.2.1 ++ numB p.2.2
theorem rexp_back {p : ExpT} (ho : okE p = true) {l t : List Int} {a : Nat} (h : l.drop a = expB p ++ t) : rexpM l a 0 = (p, a + (expB p).length, 0) := by
  unfold okE at ho
  rw [Bool.and_eq_true, Bool.and_eq_true] at ho
  unfold expB at h ⊢
  rw [List.append_assoc, List.append_assoc] at h
  have e1 := rnm_back (okN_in ho.1.1) (l := l) (a := a) h
  have d1 : l.drop (a + (nmB p.1).length) = numB p.2.1 ++ (numB p.2.2 ++ t) := drop_on h
  have e2 := rkind_back ho.1.2 d1
  have e3 := ruI_back ho.2 (drop_on d1)
  unfold rexpM
  rw [e1]
  simp only
  rw [show (Leb.uB (Utf.bl p.1).length ++ Utf.bl p.1).length = (nmB p.1).length from rfl, e2, Utf.str_bl]
  unfold expE
  simp only
  rw [e3]
  refine Prod.ext rfl (Prod.ext ?_ rfl)
  simp only [List.length_append]
  omega
abbrev PElm := Ins × List Int
def okM (p : PElm) : Bool := okX p.1 && (decide ((p.2.length : Int) ≤ 256) && p.2.all okU)
def elmB (p : PElm) : List Int := numB 0 ++ (ib p.1 ++ [11]) ++ (Leb.uB p.2.length ++ p.2.flatMap numB)
theorem rzero_back {l t : List Int} {a : Nat} (h : l.drop a = numB 0 ++ t) : rzeroM l a 0 = (a + (numB 0).length, 0) := by
  unfold rzeroM
  rw [ruI_back (v := 0) rfl h]
  rfl
theorem relm_back {p : PElm} (hu : u64R p.1.K) (ho : okM p = true) {l t : List Int} {a : Nat} (h : l.drop a = elmB p ++ t) : relmM l a 0 = (p, a + (elmB p).length, 0) := by
  unfold okM at ho
  rw [Bool.and_eq_true, Bool.and_eq_true] at ho
  unfold elmB at h ⊢
  rw [List.append_assoc, List.append_assoc] at h
  have e1 := rzero_back h
  have d1 := drop_on h
  have e2 := rexpr_back hu ho.1 d1
  have e3 := rnums_back (m := 256) (by omega) (of_decide_eq_true ho.2.1) ho.2.2 (drop_on d1)
  unfold relmM
  rw [e1]
  simp only
  rw [e2]
  unfold elmE
  simp only
  rw [e3]
  refine Prod.ext rfl (Prod.ext ?_ rfl)
  simp only [List.length_append]
  omega
theorem rbytes_back {L l t : List Int} {a : Nat} (hL : L.length < 4294967296) (h : l.drop a = (Leb.uB L.length ++ L) ++ t) : rbytesM l a 0 = (L, a + (Leb.uB L.length ++ L).length, 0) := by
  rw [List.append_assoc] at h
  obtain ⟨b, rfl, rfl⟩ := drop_split h (uB_ne _)
  unfold rbytesM
  rw [ru_back hL (by rw [List.drop_left])]
  simp only
  rw [decide_eq_false (by simp only [List.length_append]; omega)]
  unfold bytesE
  rw [if_neg (by simp [rf]), Int.toNat_natCast, ← List.drop_drop, List.drop_left, List.drop_left, List.take_left]
  simp [Nat.add_assoc]
abbrev PDat := Ins × List Int
def okD (p : PDat) : Bool := okX p.1 && okU (p.2.length : Int)
def datB (p : PDat) : List Int := numB 0 ++ (ib p.1 ++ [11]) ++ numB (p.2.length : Int) ++ p.2
theorem rdat_back {p : PDat} (hu : u64R p.1.K) (ho : okD p = true) {l t : List Int} {a : Nat} (h : l.drop a = datB p ++ t) : rdatM l a 0 = (p, a + (datB p).length, 0) := by
  unfold okD at ho
  rw [Bool.and_eq_true] at ho
  unfold datB at h ⊢
  rw [List.append_assoc, List.append_assoc, List.append_assoc] at h
  have e1 := rzero_back h
  have d1 := drop_on h
  have e2 := rexpr_back hu ho.1 d1
  have d2 := drop_on d1
  have hn : numB (p.2.length : Int) = Leb.uB p.2.length := by unfold numB; rw [Int.toNat_natCast]
  have e3 := rbytes_back (L := p.2) (l := l) (t := t) (by have := (okU_nn ho.2).2; omega) (by rw [d2, hn, List.append_assoc])
  unfold rdatM
  rw [e1]
  simp only
  rw [e2]
  unfold datE
  simp only
  rw [e3]
  refine Prod.ext rfl (Prod.ext ?_ rfl)
  simp only [List.length_append, hn]
  omega
abbrev PCod := List Int × List Ins
def runB (r : Int × Int) : List Int := numB r.1 ++ [r.2]
def okRun (r : Int × Int) : Bool := okU r.1 && isV r.2
def locB (l : List Int) : List Int := Leb.uB (runs l).length ++ (runs l).flatMap runB
def inB (p : PCod) : List Int := locB p.1 ++ bdB p.2
noncomputable def okIn (p : PCod) : Bool := decide ((p.1.length : Int) ≤ 64) && (decide (((runs p.1).length : Int) ≤ 64) && (runs p.1).all okRun) && okB p.2 && decide ((inB p).length ≤ 65536)
noncomputable def okC (p : PCod) : Bool := okIn p && okU ((inB p).length : Int)
def codB (p : PCod) : List Int := numB ((inB p).length : Int) ++ inB p
theorem locs_back {l : List Int} : ∀ (R : List (Int × Int)) (a : Nat) (out t : List Int), (∀ r ∈ R, okRun r = true ∧ 0 ≤ r.1) → l.drop a = R.flatMap runB ++ t → out.length + (exR R).length ≤ 64 → locsM l R.length a 0 out = (out ++ exR R, a + (R.flatMap runB).length, 0)
  | [], a, out, t, _, _, _ => by simp [locsM, exR]
  | r :: R, a, out, t, hk, h, hl => by
    obtain ⟨k1, k2⟩ := hk r (List.mem_cons_self ..)
    unfold okRun at k1
    rw [Bool.and_eq_true] at k1
    rw [List.flatMap_cons, List.append_assoc] at h
    have hd : l.drop a = numB r.1 ++ ([r.2] ++ (R.flatMap runB ++ t)) := by rw [h]; unfold runB; rw [List.append_assoc]
    have e1 := ruI_back k1.1 hd
    have d1 := drop_on hd
    have e2 := rval_back k1.2 d1
    have d2 : l.drop (a + (numB r.1).length + 1) = R.flatMap runB ++ t := drop_on d1
    have hx : exR (r :: R) = List.replicate r.1.toNat r.2 ++ exR R := by unfold exR; rw [List.flatMap_cons]
    rw [hx, List.length_append, List.length_replicate] at hl
    rw [List.length_cons, locsM, if_neg (by simp), e1]
    simp only
    rw [e2]
    simp only
    rw [decide_eq_false (by omega), show rf false 0 4 = 0 from rfl, if_pos rfl, locs_back R _ _ t (fun q hq => hk q (List.mem_cons_of_mem _ hq)) d2 (by rw [List.length_append, List.length_replicate]; omega), hx, List.flatMap_cons]
    refine Prod.ext (by simp) (Prod.ext ?_ rfl)
    unfold runB
    simp only [List.length_append, List.length_singleton]
    omega
theorem rfunc_back {p : PCod} (hu : ∀ x ∈ p.2, u64R x.K) (ho : okC p = true) {l t : List Int} {a : Nat} (h : l.drop a = codB p ++ t) : rfuncM l a 0 = (p, a + (codB p).length, 0) := by
  unfold okC okIn at ho
  simp only [Bool.and_eq_true] at ho
  obtain ⟨⟨⟨⟨k1, k2, k3⟩, k4⟩, k5⟩, k6⟩ := ho
  have k1' := of_decide_eq_true k1
  have k2' := of_decide_eq_true k2
  have k5' := of_decide_eq_true k5
  have hn : numB ((inB p).length : Int) = Leb.uB (inB p).length := by unfold numB; rw [Int.toNat_natCast]
  unfold codB at h ⊢
  rw [hn] at h ⊢
  have e1 := rbytes_back (by omega) h
  unfold rfuncM
  rw [e1]
  simp only
  rw [if_neg (by simp)]
  have hex := (rinv p.1).ex
  have d0 : (inB p).drop 0 = Leb.uB (runs p.1).length ++ ((runs p.1).flatMap runB ++ (bdB p.2 ++ [])) := by
    unfold inB locB
    simp
  have e2 := rmany_back (m := 64) k2' (by omega) d0
  rw [e2]
  unfold funE
  simp only
  rw [Int.toNat_natCast]
  have d1 := drop_on d0
  have e3 := locs_back (runs p.1) _ [] _ (fun r hr => ⟨List.all_eq_true.1 k3 r hr, by have := (rinv p.1).pos r hr; omega⟩) d1 (by rw [hex]; simp; omega)
  rw [e3, hex]
  simp only [List.nil_append]
  unfold codeE
  have d2 := drop_on d1
  rw [rcode_back hu k4 d2]
  simp only
  have hat : 0 + (Leb.uB (runs p.1).length).length + ((runs p.1).flatMap runB).length + (bdB p.2).length = (inB p).length := by unfold inB locB; simp only [List.length_append]; omega
  rw [hat]
  unfold rleftM
  rw [decide_eq_false (by omega)]
  rfl
end Go.Proofs.YtffegkjlgeblbaaGreatDoor.Mdl
end

section
/- The program's writer: names, types of values, flags, kinds, tables, functions' types. -/
namespace Go.Proofs.YtffegkjlgeblbaaGreatDoor.Mdl
open Go.RowKit Ints Typ Ins
set_option maxRecDepth 100000
set_option maxHeartbeats 4000000
set_option linter.unusedVariables false
theorem wtab {w : World} {g : Nat} {b : List Int} {bad : Bool} (x y : Int) (z : Bool) (h : WS w g b bad) :
    Calls Tryz.prog 151 #[.pointer (some ⟨g, 0, none⟩), .agg #[.int .i64 x, .int .i64 y, .bool z]] w (WTold g b bad (okL x y z) (112 :: limB x y z) w) := by
  have HA := Lib.hid ((Below.refl w.heap.size w).alloc (Nat.le_refl _) (.cells #[.int .i64 x, .int .i64 y, .bool z] 61))
  have HC : Hid ((w.alloc (.cells #[.int .i64 x, .int .i64 y, .bool z] 61)).heap[w.heap.size]? = some (.cells #[.int .i64 x, .int .i64 y, .bool z] 61 (0, 0))) := Lib.hid (Sec.heap_new w _)
  obtain ⟨W0, hW0⟩ : ∃ W, w.alloc (.cells #[.int .i64 x, .int .i64 y, .bool z] 61) = W := ⟨_, rfl⟩
  have HW0 := Lib.hid hW0
  rw [hW0] at HA HC
  have HA1 := Lib.hid ((Below.refl W0.heap.size W0).alloc (Nat.le_refl _) (.cells #[.int .u8 112] 5))
  have HS1 : Hid (Sl (W0.alloc (.cells #[.int .u8 112] 5)) (.slice (some ⟨W0.heap.size, 0, none⟩) 1 1) [112]) := Lib.hid (Bod.one_sl W0 112)
  have HC1 : Hid ((W0.alloc (.cells #[.int .u8 112] 5)).heap[w.heap.size]? = some (.cells #[.int .i64 x, .int .i64 y, .bool z] 61 (0, 0))) := Lib.hid (bx_keep HC.out HA1.out)
  have HB := Lib.hid (HA.out.trans (HA1.out.mono HA.out.size))
  have HS := Lib.hid (h.keep HB.out)
  have HGW : Hid (w.heap.size ≠ g) := Lib.hid (by have := h.lt; omega)
  have HF := Lib.hid (WFr.of_below HB.out h.lt)
  have hz : W0.heap.size = w.heap.size + 1 := by rw [← hW0]; simp
  rw [hz] at HS1
  clear h hW0 hz
  go_enter Tryz.func151, Tryz.ntmps151
  go_wp2_with fail
  rw [HW0.out]
  refine (wput 0 HS.out HS1.out (by simp)).mono ?_
  rintro en w1 ⟨b1, bad1, rfl, hs1, hp1, hf1⟩
  have HP1 : Hid (Puts b bad b1 bad1 true [112]) := Lib.hid hp1
  have HF1 := Lib.hid (HF.out.trans hf1)
  have HS1 := Lib.hid hs1
  have hc := hf1.block HC1.out HGW.out (by decide)
  have c0 := (Sec.cells_at hc 0).1
  have c1 := (Sec.cells_at hc 1).1
  have c2 := (Sec.cells_at hc 2).1
  clear hp1 hf1 hs1 hc
  go_wp2_with fail
  refine (wlim x y z HS1.out).mono ?_
  rintro en w3 hq
  have HE : Hid (WTold g b bad (okL x y z) (112 :: limB x y z) w en w3) := Lib.hid (by have := WTold.next HP1.out HF1.out hq; rw [Bool.true_and] at this; exact this)
  obtain ⟨b', bad', rfl, _, _, _⟩ := hq
  go_wp2_with fail
  exact bodyPost_end (v := .tuple #[]) (by simp [results, Tryz.results151, go_sem]) rfl HE.out
end Go.Proofs.YtffegkjlgeblbaaGreatDoor.Mdl
end
