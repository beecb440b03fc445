/- An instruction's bytes read back; a byte less is too short. What is told may be. Plain lists. -/
import Derived.Test.YtdmidagcdhhlhaaDoorInsPPuts
import Derived.Test.YtdmidagcdhhlhaaDoorInsPReads
namespace Go.Proofs.YtdmidagcdhhlhaaDoor.Ins
open Go.RowKit Ints Typ Leb
set_option maxRecDepth 100000
set_option maxHeartbeats 1000000
set_option linter.unusedVariables false

theorem rb_at {l t : List Int} {a : Nat} {c : Int} (h : l.drop a = c :: t) : rb l a 0 = (c, a + 1, 0) := by
  have hl : a < l.length := by
    by_cases hh : a < l.length
    · exact hh
    · rw [List.drop_eq_nil_of_le (by omega)] at h; cases h
  have e : l.getD a 0 = c := by
    have h0 : (l.drop a)[0]? = some c := by rw [h]; rfl
    rw [List.getElem?_drop, Nat.add_zero] at h0
    rw [List.getD_eq_getElem?_getD, h0]; rfl
  rw [rb_in hl, e]
theorem rb_none {l : List Int} {a : Nat} (h : l.drop a = []) : rb l a 0 = (0, a, 2) := rb_end (by
  have : (l.drop a).length = 0 := by rw [h]; rfl
  rw [List.length_drop] at this
  omega)
theorem drop_one {l t : List Int} {a : Nat} {c : Int} (h : l.drop a = c :: t) : l.drop (a + 1) = t := by
  rw [← List.drop_drop, h]; rfl
theorem drop_app {l x t : List Int} {a : Nat} (h : l.drop a = x ++ t) : l.drop (a + x.length) = t := by
  rw [← List.drop_drop, h, List.drop_left]
theorem ru_at {l t : List Int} {a v : Nat} (hv : v < 4294967296) (h : l.drop a = uB v ++ t) : ru l a 0 = ((v : Int), a + (uB v).length, 0) := by
  unfold ru
  rw [if_neg (by simp), h, back32 hv t, uB_len]
  simp
theorem ru_cut {l : List Int} {a v m : Nat} (hv : v < 4294967296) (hm : m + 1 ≤ lenU v) (h : l.drop a = (uB v).take m) : ru l a 0 = (0, a, 2) := by
  unfold ru
  rw [if_neg (by simp), h, cut32 hv hm]
theorem lenS_five {s : Int} (h1 : -2147483648 ≤ s) (h2 : s < 2147483648) : lenS s ≤ 5 := lenS_le 4 s (by omega) (by omega)
theorem rs_at32 {l t : List Int} {a : Nat} {s : Int} (h1 : -2147483648 ≤ s) (h2 : s < 2147483648) (h : l.drop a = sB s ++ t) : rs 32 l a 0 = (s, a + (sB s).length, 0) := by
  have hb := rdS_back 32 (by omega) t s.natAbs s 0 0 (Nat.le_refl _) (by omega) rfl (by simp)
  rw [if_pos (by simp; omega)] at hb
  obtain ⟨V, e1, e2⟩ := hb
  rw [Nat.zero_add] at e1 e2
  have e3 := ext_back s V (by omega) (by omega) (by simpa using e2)
  unfold rs
  rw [if_neg (by simp), h, e1]
  simp only [e3, sB_len]
  simp
theorem rs_at64 {l t : List Int} {a : Nat} {s : Int} (h1 : -9223372036854775808 ≤ s) (h2 : s ≤ 9223372036854775807) (h : l.drop a = sB s ++ t) : rs 64 l a 0 = (s, a + (sB s).length, 0) := by
  have hb := rdS_back 64 (by omega) t s.natAbs s 0 0 (Nat.le_refl _) (by omega) rfl (by simp)
  rw [if_pos (by simp; omega)] at hb
  obtain ⟨V, e1, e2⟩ := hb
  rw [Nat.zero_add] at e1 e2
  have e3 := ext_back s V (by omega) (by omega) (by simpa using e2)
  unfold rs
  rw [if_neg (by simp), h, e1]
  simp only [e3, sB_len]
  simp
theorem rs_cut32 {l : List Int} {a m : Nat} {s : Int} (h1 : -2147483648 ≤ s) (h2 : s < 2147483648) (hm : m + 1 ≤ lenS s) (h : l.drop a = (sB s).take m) : rs 32 l a 0 = (0, a, 2) := by
  unfold rs
  rw [if_neg (by simp), h, short32 _ 0 0 (sB_front _ s m (Nat.le_refl _) hm) (by have := lenS_five h1 h2; rw [List.length_take]; omega)]
theorem rs_cut64 {l : List Int} {a m : Nat} {s : Int} (h1 : -9223372036854775808 ≤ s) (h2 : s ≤ 9223372036854775807) (hm : m + 1 ≤ lenS s) (h : l.drop a = (sB s).take m) : rs 64 l a 0 = (0, a, 2) := by
  unfold rs
  rw [if_neg (by simp), h, short_of _ 0 0 (sB_front _ s m (Nat.le_refl _) hm) (by have := lenS_ten h1 h2; rw [List.length_take]; omega)]
theorem lb_at {l t : List Int} : ∀ (L M : List Int) (a : Nat), L.all okN = true → l.drop a = uLs L ++ t → lb l L.length M a 0 = (M ++ L, a + (uLs L).length, 0)
  | [], M, a, _, _ => by simp [lb, uLs]
  | v :: L, M, a, h, hd => by
    rw [List.all_cons, Bool.and_eq_true] at h
    have hv := okN_of h.1
    have e : uLs (v :: L) = uB v.toNat ++ uLs L := rfl
    rw [e, List.append_assoc] at hd
    have hr := ru_at (by omega) hd
    have hd2 := drop_app hd
    have ih := lb_at L (M ++ [v]) _ h.2 hd2
    have e1 : lb l (v :: L).length M a 0 = lb l L.length (M ++ [(ru l a 0).1]) (ru l a 0).2.1 (ru l a 0).2.2 := if_pos rfl
    rw [e1, hr, show (((v.toNat : Nat) : Int)) = v from okN_nat h.1]
    show lb l L.length (M ++ [v]) (a + (uB v.toNat).length) 0 = _
    rw [ih, e, List.length_append]
    simp [Nat.add_assoc]
theorem vaT_sg32 {K : Int} (h0 : 0 ≤ K) (h1 : K < 4294967296) : vaT 127 (sgT 127 K) = K ∧ -2147483648 ≤ sgT 127 K ∧ sgT 127 K < 2147483648 := by
  unfold vaT sgT sg32
  rw [if_pos rfl, if_pos rfl]
  split <;> omega
theorem vaT_sg64 {K : Int} (h : u64R K) : IntKind.u64.wrap (sgT 126 K) = K := by
  unfold u64R at h
  rw [IntKind.wrap_u64]
  unfold sgT sg64
  rw [if_neg (by decide)]
  split <;> omega
theorem drop_ahead (b t : List Int) : (b ++ t).drop b.length = t := List.drop_left
theorem ri_head {l t : List Int} {a : Nat} {c : Int} (h : l.drop a = c :: t) : rb l a 0 = (c, a + 1, 0) ∧ l.drop (a + 1) = t := ⟨rb_at h, drop_one h⟩
theorem fitT_127 {K : Int} (h : fitT 127 K = true) : K < 4294967296 := by unfold fitT at h; simpa using h
/-- What was laid is told as it was, and the place behind it. -/
theorem ri_back {x : Ins} (hu : u64R x.K) (hs : saneI x = true) {l t : List Int} {a : Nat} (h : l.drop a = ib x ++ t) : ri l a 0 = (x, a + (ib x).length, 0) := by
  have hr := kd_range x.op
  have hk : kd x.op = 0 ∨ kd x.op = 1 ∨ kd x.op = 2 ∨ kd x.op = 3 ∨ kd x.op = 4 ∨ kd x.op = 5 ∨ kd x.op = 6 ∨ kd x.op = 7 ∨ kd x.op = 8 ∨ kd x.op = 9 := by omega
  obtain ⟨op, A, B, K, L⟩ := x
  rw [saneI_eq] at hs
  simp only at hk hs hu
  rcases hk with hk | hk | hk | hk | hk | hk | hk | hk | hk | hk <;> rw [hk] at hs
  · rw [saneK_0] at hs; exact absurd hs (by simp)
  · rw [saneK_1] at hs
    obtain ⟨rfl, rfl, rfl, rfl⟩ := of_decide_eq_true hs
    rw [show ib ⟨op, 0, 0, 0, []⟩ = [op] from by simp [ib, hk]] at h ⊢
    obtain ⟨e1, h1⟩ := ri_head (t := t) (by simpa using h)
    unfold ri
    simp only [e1, hk]
    simp
  · rw [saneK_2, Bool.and_eq_true] at hs
    obtain ⟨_, rfl, rfl, rfl⟩ := of_decide_eq_true hs.2
    have hA : A = 0 ∨ A = 127 ∨ A = 126 := by simpa [or_assoc] using hs.1
    rw [show ib ⟨op, A, 0, 0, []⟩ = [op] ++ [if A = 0 then 64 else A] from by simp [ib, hk]] at h ⊢
    obtain ⟨e1, h1⟩ := ri_head (t := [if A = 0 then 64 else A] ++ t) (by simpa using h)
    obtain ⟨e2, _⟩ := ri_head (t := t) (c := if A = 0 then 64 else A) (by simpa using h1)
    unfold ri
    simp only [e1, e2, hk]
    rcases hA with rfl | rfl | rfl <;> simp [rf]
  · rw [saneK_3, Bool.and_eq_true] at hs
    obtain ⟨_, rfl, rfl, rfl⟩ := of_decide_eq_true hs.2
    have hA := okN_of hs.1
    rw [show ib ⟨op, A, 0, 0, []⟩ = [op] ++ uB A.toNat from by simp [ib, hk]] at h ⊢
    obtain ⟨e1, h1⟩ := ri_head (t := uB A.toNat ++ t) (by simpa using h)
    have e2 := ru_at (by omega) h1
    unfold ri
    simp only [e1, e2, hk]
    simp [okN_nat hs.1, Nat.add_comm, Nat.add_assoc]
  · rw [saneK_4, Bool.and_eq_true, Bool.and_eq_true, Bool.and_eq_true] at hs
    obtain ⟨⟨⟨hall, hlen⟩, hA⟩, hq⟩ := hs
    obtain ⟨_, rfl, rfl, _⟩ := of_decide_eq_true hq
    have hlen : L.length ≤ 64 := by have := of_decide_eq_true hlen; omega
    have hA' := okN_of hA
    rw [show ib ⟨op, A, 0, 0, L⟩ = [op] ++ uB L.length ++ uLs L ++ uB A.toNat from by simp [ib, hk]] at h ⊢
    obtain ⟨e1, h1⟩ := ri_head (t := uB L.length ++ (uLs L ++ (uB A.toNat ++ t))) (by simpa using h)
    have e2 := ru_at (by omega) h1
    have h2 := drop_app h1
    have e3 := lb_at L [] _ hall h2
    have h3 := drop_app h2
    have e4 := ru_at (by omega) h3
    unfold ri
    simp only [e1, e2, hk]
    rw [Int.toNat_natCast, show rf (decide ((64 : Int) < (L.length : Int))) 0 4 = 0 from by rw [decide_eq_false (by omega)]; rfl, e3]
    simp only [e4]
    simp [okN_nat hA, Nat.add_comm, Nat.add_left_comm, Nat.add_assoc]
  · rw [saneK_5, Bool.and_eq_true] at hs
    obtain ⟨_, rfl, rfl, rfl⟩ := of_decide_eq_true hs.2
    have hA := okN_of hs.1
    rw [show ib ⟨op, A, 0, 0, []⟩ = [op] ++ uB A.toNat ++ [0] from by simp [ib, hk]] at h ⊢
    obtain ⟨e1, h1⟩ := ri_head (t := uB A.toNat ++ (0 :: t)) (by simpa using h)
    have e2 := ru_at (by omega) h1
    have h2 := drop_app h1
    obtain ⟨e3, _⟩ := ri_head h2
    unfold ri
    simp only [e1, e2, e3, hk]
    simp [okN_nat hs.1, rf, Nat.add_comm, Nat.add_left_comm, Nat.add_assoc]
  · rw [saneK_6, Bool.and_eq_true, Bool.and_eq_true] at hs
    obtain ⟨_, _, rfl, rfl⟩ := of_decide_eq_true hs.2
    have hA := okN_of hs.1.1
    have hB := okN_of hs.1.2
    rw [show ib ⟨op, A, B, 0, []⟩ = [op] ++ uB A.toNat ++ uB B.toNat from by simp [ib, hk]] at h ⊢
    obtain ⟨e1, h1⟩ := ri_head (t := uB A.toNat ++ (uB B.toNat ++ t)) (by simpa using h)
    have e2 := ru_at (by omega) h1
    have h2 := drop_app h1
    have e3 := ru_at (by omega) h2
    unfold ri
    simp only [e1, e2, e3, hk]
    simp [okN_nat hs.1.1, okN_nat hs.1.2, Nat.add_comm, Nat.add_assoc]
  · rw [saneK_7] at hs
    obtain ⟨rfl, rfl, rfl, rfl⟩ := of_decide_eq_true hs
    rw [show ib ⟨op, 0, 0, 0, []⟩ = [op] ++ [0] from by simp [ib, hk]] at h ⊢
    obtain ⟨e1, h1⟩ := ri_head (t := 0 :: t) (by simpa using h)
    obtain ⟨e2, _⟩ := ri_head h1
    unfold ri
    simp only [e1, e2, hk]
    simp [rf]
  · rw [saneK_8, Bool.and_eq_true] at hs
    obtain ⟨rfl, rfl, _, rfl⟩ := of_decide_eq_true hs.2
    have hK := fitT_127 hs.1
    obtain ⟨g1, g2, g3⟩ := vaT_sg32 (K := K) (by unfold u64R at hu; omega) hK
    rw [show ib ⟨op, 0, 0, K, []⟩ = [op] ++ sB (sgT 127 K) from by simp [ib, hk]] at h ⊢
    obtain ⟨e1, h1⟩ := ri_head (t := sB (sgT 127 K) ++ t) (by simpa using h)
    have e2 := rs_at32 g2 g3 h1
    unfold ri
    simp only [e1, e2, hk]
    simp [g1, Nat.add_comm, Nat.add_assoc]
  · rw [saneK_9, Bool.and_eq_true] at hs
    obtain ⟨rfl, rfl, _, rfl⟩ := of_decide_eq_true hs.2
    have hg := sg_range 126 K hu
    rw [show ib ⟨op, 0, 0, K, []⟩ = [op] ++ sB (sgT 126 K) from by simp [ib, hk]] at h ⊢
    obtain ⟨e1, h1⟩ := ri_head (t := sB (sgT 126 K) ++ t) (by simpa using h)
    have e2 := rs_at64 hg.1 hg.2 h1
    unfold ri
    simp only [e1, e2, hk]
    simp [vaT_sg64 hu, Nat.add_comm, Nat.add_assoc]
theorem take_last (b : List Int) (x : Int) : (b ++ [x]).take ((b ++ [x]).length - 1) = b := by simp
theorem take_cut {a c : List Int} (h : 1 ≤ c.length) : (a ++ c).take ((a ++ c).length - 1) = a ++ c.take (c.length - 1) := by
  rw [List.length_append, List.take_append, List.take_of_length_le (by omega), show a.length + c.length - 1 - a.length = c.length - 1 from by omega]
/-- A byte less is too short. -/
theorem ri_cut {x : Ins} (hu : u64R x.K) (hs : saneI x = true) {l : List Int} {a : Nat} (h : l.drop a = (ib x).take ((ib x).length - 1)) : (ri l a 0).2.2 = 2 := by
  have hr := kd_range x.op
  have hk : kd x.op = 0 ∨ kd x.op = 1 ∨ kd x.op = 2 ∨ kd x.op = 3 ∨ kd x.op = 4 ∨ kd x.op = 5 ∨ kd x.op = 6 ∨ kd x.op = 7 ∨ kd x.op = 8 ∨ kd x.op = 9 := by omega
  obtain ⟨op, A, B, K, L⟩ := x
  rw [saneI_eq] at hs
  simp only at hk hs hu
  have hup : ∀ v : Nat, 1 ≤ (uB v).length := fun v => by rw [uB_len]; exact lenU_pos v
  have hsp : ∀ v : Int, 1 ≤ (sB v).length := fun v => by rw [sB_len]; exact lenS_pos v
  rcases hk with hk | hk | hk | hk | hk | hk | hk | hk | hk | hk <;> rw [hk] at hs
  · rw [saneK_0] at hs; exact absurd hs (by simp)
  · rw [show ib ⟨op, A, B, K, L⟩ = [op] from by simp [ib, hk]] at h
    have e1 := rb_none (by simpa using h)
    unfold ri
    simp only [e1, show kd 0 = 1 from by decide]
    simp
  · rw [show ib ⟨op, A, B, K, L⟩ = [op] ++ [if A = 0 then 64 else A] from by simp [ib, hk], take_last] at h
    obtain ⟨e1, h1⟩ := ri_head h
    have e2 := rb_none h1
    unfold ri
    simp only [e1, e2, hk]
    simp [rf]
  · rw [saneK_3, Bool.and_eq_true] at hs
    have hA := okN_of hs.1
    rw [show ib ⟨op, A, B, K, L⟩ = [op] ++ uB A.toNat from by simp [ib, hk], take_cut (hup _)] at h
    obtain ⟨e1, h1⟩ := ri_head (t := (uB A.toNat).take ((uB A.toNat).length - 1)) (by simpa using h)
    have e2 := ru_cut (v := A.toNat) (by omega) (by have := hup A.toNat; rw [uB_len] at *; omega) h1
    unfold ri
    simp only [e1, e2, hk]
    simp
  · rw [saneK_4, Bool.and_eq_true, Bool.and_eq_true, Bool.and_eq_true] at hs
    obtain ⟨⟨⟨hall, hlen⟩, hA⟩, hq⟩ := hs
    have hlen : L.length ≤ 64 := by have := of_decide_eq_true hlen; omega
    have hA' := okN_of hA
    rw [show ib ⟨op, A, B, K, L⟩ = [op] ++ uB L.length ++ uLs L ++ uB A.toNat from by simp [ib, hk], take_cut (hup _)] at h
    obtain ⟨e1, h1⟩ := ri_head (t := uB L.length ++ (uLs L ++ (uB A.toNat).take ((uB A.toNat).length - 1))) (by simpa using h)
    have e2 := ru_at (by omega) h1
    have h2 := drop_app h1
    have e3 := lb_at L [] _ hall h2
    have h3 := drop_app h2
    have e4 := ru_cut (v := A.toNat) (by omega) (by have := hup A.toNat; rw [uB_len] at *; omega) h3
    unfold ri
    simp only [e1, e2, hk]
    rw [Int.toNat_natCast, show rf (decide ((64 : Int) < (L.length : Int))) 0 4 = 0 from by rw [decide_eq_false (by omega)]; rfl, e3]
    simp only [e4]
    simp
  · rw [saneK_5, Bool.and_eq_true] at hs
    have hA := okN_of hs.1
    rw [show ib ⟨op, A, B, K, L⟩ = [op] ++ uB A.toNat ++ [0] from by simp [ib, hk], take_last] at h
    obtain ⟨e1, h1⟩ := ri_head (t := uB A.toNat ++ []) (by simpa using h)
    have e2 := ru_at (by omega) h1
    have e3 := rb_none (drop_app h1)
    unfold ri
    simp only [e1, e2, e3, hk]
    simp [rf]
  · rw [saneK_6, Bool.and_eq_true, Bool.and_eq_true] at hs
    have hA := okN_of hs.1.1
    have hB := okN_of hs.1.2
    rw [show ib ⟨op, A, B, K, L⟩ = [op] ++ uB A.toNat ++ uB B.toNat from by simp [ib, hk], take_cut (hup _)] at h
    obtain ⟨e1, h1⟩ := ri_head (t := uB A.toNat ++ (uB B.toNat).take ((uB B.toNat).length - 1)) (by simpa using h)
    have e2 := ru_at (by omega) h1
    have h2 := drop_app h1
    have e3 := ru_cut (v := B.toNat) (by omega) (by have := hup B.toNat; rw [uB_len] at *; omega) h2
    unfold ri
    simp only [e1, e2, e3, hk]
    simp
  · rw [show ib ⟨op, A, B, K, L⟩ = [op] ++ [0] from by simp [ib, hk], take_last] at h
    obtain ⟨e1, h1⟩ := ri_head h
    have e2 := rb_none h1
    unfold ri
    simp only [e1, e2, hk]
    simp [rf]
  · rw [saneK_8, Bool.and_eq_true] at hs
    have hK := fitT_127 hs.1
    obtain ⟨g1, g2, g3⟩ := vaT_sg32 (K := K) (by unfold u64R at hu; omega) hK
    rw [show ib ⟨op, A, B, K, L⟩ = [op] ++ sB (sgT 127 K) from by simp [ib, hk], take_cut (hsp _)] at h
    obtain ⟨e1, h1⟩ := ri_head (t := (sB (sgT 127 K)).take ((sB (sgT 127 K)).length - 1)) (by simpa using h)
    have e2 := rs_cut32 g2 g3 (by have := hsp (sgT 127 K); rw [sB_len] at *; omega) h1
    unfold ri
    simp only [e1, e2, hk]
    simp
  · have hg := sg_range 126 K hu
    rw [show ib ⟨op, A, B, K, L⟩ = [op] ++ sB (sgT 126 K) from by simp [ib, hk], take_cut (hsp _)] at h
    obtain ⟨e1, h1⟩ := ri_head (t := (sB (sgT 126 K)).take ((sB (sgT 126 K)).length - 1)) (by simpa using h)
    have e2 := rs_cut64 hg.1 hg.2 (by have := hsp (sgT 126 K); rw [sB_len] at *; omega) h1
    unfold ri
    simp only [e1, e2, hk]
    simp
/-- The same by Read. -/
theorem rdo_back {x : Ins} (hu : u64R x.K) (hs : saneI x = true) (b t : List Int) : rdo (b ++ (ib x ++ t)) (b.length : Int) = (x, ((b.length + (ib x).length : Nat) : Int), 0) := by
  have h := ri_back hu hs (l := b ++ (ib x ++ t)) (t := t) (a := b.length) (drop_ahead b _)
  unfold rdo
  rw [if_neg (by simp; omega), Int.toNat_natCast, h]
  simp
theorem rdo_cut {x : Ins} (hu : u64R x.K) (hs : saneI x = true) (b : List Int) : rdo (b ++ (ib x).take ((ib x).length - 1)) (b.length : Int) = (⟨0, 0, 0, 0, []⟩, 0, 2) := by
  have h := ri_cut hu hs (l := b ++ (ib x).take ((ib x).length - 1)) (a := b.length) (drop_ahead b _)
  unfold rdo
  rw [if_neg (by rw [List.length_append]; omega), Int.toNat_natCast, h]
  simp
theorem ib_inj {x y : Ins} (hx : u64R x.K) (hy : u64R y.K) (h : saneI x = true) (k : saneI y = true) : ib x = ib y ↔ x = y := by
  refine ⟨fun e => ?_, fun e => by rw [e]⟩
  have h1 := ri_back hx h (l := ib x) (t := []) (a := 0) (by simp)
  have h2 := ri_back hy k (l := ib x) (t := []) (a := 0) (by simp [e])
  exact (congrArg (·.1) h1).symm.trans (congrArg (·.1) h2)
end Go.Proofs.YtdmidagcdhhlhaaDoor.Ins
