/- The document's Put, at all arguments. -/
import Derived.Test.YtdmidagcdhhlhaaDoorInsDPut
import Derived.Test.YtdmidagcdhhlhaaDoorInsDPutB
namespace Go.Proofs.YtdmidagcdhhlhaaDoor.Ins
open Go.RowKit Ints Typ
set_option maxRecDepth 100000
set_option maxHeartbeats 1000000
set_option linter.unusedVariables false

theorem rU_sl {W : World} {v : Value} {l : List Int} {a : Int} (ha : okN a = true) (hl : l.length ≤ 1000000) (h : Sl W v l) : Calls Tryd.prog 58 #[v, .int .u64 a] W (Leb.Laid W (l ++ Leb.uB a.toNat)) := by
  obtain ⟨A, c, hv, _⟩ := id h
  subst hv
  have := Leb.refU_any A c a.toNat l W h.leb hl (by have := okN_of ha; omega)
  rw [okN_nat ha] at this
  exact this
theorem rS_sl {W : World} {v : Value} {l : List Int} {a : Int} (h1 : -9223372036854775808 ≤ a) (h2 : a ≤ 9223372036854775807) (hl : l.length ≤ 1000000) (h : Sl W v l) : Calls Tryd.prog 59 #[v, .int .i64 a] W (Leb.Laid W (l ++ Leb.sB a)) := by
  obtain ⟨A, c, hv, _⟩ := id h
  subst hv
  exact Leb.refS_any A c a l W h.leb hl h1 h2
theorem dput_yes {x : Ins} {P : Option Addr} {c : Nat} {A0 : Option Addr} {c0 : Nat} {b : List Int} {w : World} (hv : Sl w (.slice A0 b.length c0) b) (hb : b.length ≤ 10000) (hx : SlI w (.slice P x.L.length c) x.L) (hu : u64R x.K) (hs : saneI x = true) :
    Calls Tryd.prog 37 #[.slice A0 b.length c0, .agg #[.int .i64 x.op, .int .i64 x.A, .int .i64 x.B, .int .u64 x.K, .slice P x.L.length c]] w (PutTold (b ++ ib x) 0 w) := by
  have hA := hv.leb
  have hl : b.length ≤ 100000 := by omega
  have hS : ∀ W, Below w.heap.size w W → Calls Tryd.prog 44 #[iv x (.slice P x.L.length c)] W fun en w' => en = .returned (.bool true) ∧ Below W.heap.size W w' := fun W hW => hs ▸ rsane_any (hx.keep hW)
  have hr := kd_range x.op
  have hK : ∀ k : Int, kd x.op = k → ∀ W, Calls Tryd.prog 57 #[.int .i64 x.op] W fun en w' => en = .returned (.int .i64 k) ∧ Below W.heap.size W w' := fun k hk W => by
    have := rkind_any x.op W
    unfold KdTold at this
    rwa [hk] at this
  have hk : kd x.op = 0 ∨ kd x.op = 1 ∨ kd x.op = 2 ∨ kd x.op = 3 ∨ kd x.op = 4 ∨ kd x.op = 5 ∨ kd x.op = 6 ∨ kd x.op = 7 ∨ kd x.op = 8 ∨ kd x.op = 9 := by omega
  have ho : kd x.op ≠ 0 → 0 ≤ x.op ∧ x.op < 256 := fun h => by have := kd_code h; omega
  have e0 : ∀ t : List Int, b ++ ([x.op] ++ t) = b ++ [x.op] ++ t := fun t => by simp
  have hbo : (b ++ [x.op]).length ≤ 10001 := by rw [List.length_append, List.length_singleton]; omega
  rw [saneI_eq] at hs
  rcases hk with hk | hk | hk | hk | hk | hk | hk | hk | hk | hk <;> rw [hk] at hs ho
  · rw [saneK_0] at hs; exact absurd hs (by simp)
  · obtain ⟨o1, o2⟩ := ho (by decide)
    rw [show ib x = [x.op] from by simp [ib, hk]]
    exact (rput_plain A0 c0 b _ _ _ _ P _ c w hl o1 o2 hA hS (hK 1 hk)).mono fun en w' ⟨v, B, k1, k2, k3⟩ => ⟨v, k1, own_slI k2, k3⟩
  · obtain ⟨o1, o2⟩ := ho (by decide)
    rw [show ib x = [x.op] ++ [if x.A = 0 then 64 else x.A] from by simp [ib, hk], e0]
    rw [saneK_2, Bool.and_eq_true] at hs
    have hAA : x.A = 0 ∨ x.A = 127 ∨ x.A = 126 := by simpa [or_assoc] using hs.1
    by_cases hz : x.A = 0
    · rw [if_pos hz]
      exact dput_2z A0 c0 b _ _ _ _ P _ c w hl o1 o2 hA hS (hK 2 hk) (by simpa using hz)
    · rw [if_neg hz]
      exact dput_2n A0 c0 b _ _ _ _ P _ c w hl o1 o2 hA hS (hK 2 hk) (by simpa using hz) (by rw [IntKind.wrap_u8]; omega)
  · obtain ⟨o1, o2⟩ := ho (by decide)
    rw [show ib x = [x.op] ++ Leb.uB x.A.toNat from by simp [ib, hk], e0]
    rw [saneK_3, Bool.and_eq_true] at hs
    exact dput_3 A0 c0 b _ _ _ _ P _ c w hl _ o1 o2 hA hS (hK 3 hk) (okN_wrap hs.1) fun W v h => rU_sl hs.1 (by omega) h
  · obtain ⟨o1, o2⟩ := ho (by decide)
    rw [show ib x = [x.op] ++ Leb.uB x.L.length ++ uLs x.L ++ Leb.uB x.A.toNat from by simp [ib, hk]]
    rw [saneK_4, Bool.and_eq_true, Bool.and_eq_true, Bool.and_eq_true] at hs
    obtain ⟨⟨⟨hall, hlen⟩, hAk⟩, _⟩ := hs
    have hlen : x.L.length ≤ 64 := by have := of_decide_eq_true hlen; omega
    have hok : okN (x.L.length : Int) = true := by unfold okN; simp; omega
    have hu1 := uB_ten (a := x.L.length) (by omega)
    have hu2 := uLs_len x.L hall
    have hL1 : (b ++ [x.op] ++ Leb.uB x.L.length).length ≤ 10011 := by rw [List.length_append]; omega
    rw [show b ++ ([x.op] ++ Leb.uB x.L.length ++ uLs x.L ++ Leb.uB x.A.toNat) = b ++ [x.op] ++ Leb.uB x.L.length ++ uLs x.L ++ Leb.uB x.A.toNat from by simp]
    refine dput_4 A0 c0 b _ _ _ _ P _ c w hl x.L (b ++ [x.op] ++ Leb.uB x.L.length) _ o1 o2 hA hS (hK 4 hk) rfl hx hall (okN_wrap hAk) (okN_wrap hok) hlen ?_ ?_ ?_
    · intro W v h
      have := rU_sl hok (by omega) h
      rw [Int.toNat_natCast] at this
      exact this
    · intro W v k hk' h
      have hg : okN (x.L.getD k 0) = true := List.all_eq_true.1 hall _ (by rw [List.getD_eq_getElem?_getD, List.getElem?_eq_getElem hk']; simp)
      have ht := uLs_len (x.L.take k) (List.all_eq_true.2 fun y hy => List.all_eq_true.1 hall y (List.mem_of_mem_take hy))
      have hlt : (x.L.take k).length ≤ 64 := by rw [List.length_take]; omega
      have := rU_sl hg (by rw [List.length_append]; omega) h
      rw [List.append_assoc (b ++ [x.op] ++ Leb.uB x.L.length), uLs_take hk'] at this
      exact this
    · intro W v h
      exact rU_sl hAk (by rw [List.length_append]; omega) h
  · obtain ⟨o1, o2⟩ := ho (by decide)
    rw [show ib x = [x.op] ++ Leb.uB x.A.toNat ++ [0] from by simp [ib, hk], show b ++ ([x.op] ++ Leb.uB x.A.toNat ++ [0]) = b ++ [x.op] ++ Leb.uB x.A.toNat ++ [0] from by simp]
    rw [saneK_5, Bool.and_eq_true] at hs
    have hu1 := uB_ten (a := x.A.toNat) (by have := okN_of hs.1; omega)
    exact dput_5 A0 c0 b _ _ _ _ P _ c w hl _ o1 o2 hA hS (hK 5 hk) (okN_wrap hs.1) (fun W v h => rU_sl hs.1 (by omega) h) (by rw [List.length_append]; omega)
  · obtain ⟨o1, o2⟩ := ho (by decide)
    rw [show ib x = [x.op] ++ Leb.uB x.A.toNat ++ Leb.uB x.B.toNat from by simp [ib, hk], show b ++ ([x.op] ++ Leb.uB x.A.toNat ++ Leb.uB x.B.toNat) = b ++ [x.op] ++ Leb.uB x.A.toNat ++ Leb.uB x.B.toNat from by simp]
    rw [saneK_6, Bool.and_eq_true, Bool.and_eq_true] at hs
    have hu1 := uB_ten (a := x.A.toNat) (by have := okN_of hs.1.1; omega)
    exact dput_6 A0 c0 b _ _ _ _ P _ c w hl _ _ o1 o2 hA hS (hK 6 hk) (okN_wrap hs.1.1) (okN_wrap hs.1.2) (fun W v h => rU_sl hs.1.1 (by omega) h) (fun W v h => rU_sl hs.1.2 (by rw [List.length_append]; omega) h)
  · obtain ⟨o1, o2⟩ := ho (by decide)
    rw [show ib x = [x.op] ++ [0] from by simp [ib, hk], e0]
    exact dput_7 A0 c0 b _ _ _ _ P _ c w hl o1 o2 hA hS (hK 7 hk) trivial
  · obtain ⟨o1, o2⟩ := ho (by decide)
    rw [show ib x = [x.op] ++ Leb.sB (sgT 127 x.K) from by simp [ib, hk], e0]
    have hg := sg_range 127 x.K hu
    exact dput_8 A0 c0 b _ _ _ _ P _ c w hl _ _ o1 o2 hA hS (hK 8 hk) (fun W => rsigned_any 127 x.K W hu) fun W v h => rS_sl hg.1 hg.2 (by omega) h
  · obtain ⟨o1, o2⟩ := ho (by decide)
    rw [show ib x = [x.op] ++ Leb.sB (sgT 126 x.K) from by simp [ib, hk], e0]
    have hg := sg_range 126 x.K hu
    have hw : IntKind.i64.wrap x.K = sgT 126 x.K := by
      unfold u64R at hu
      rw [IntKind.wrap_i64]
      unfold sgT sg64
      rw [if_neg (by decide)]
      split <;> omega
    exact dput_9 A0 c0 b _ _ _ _ P _ c w hl _ _ o1 o2 hA hS (hK 9 hk) hw fun W v h => rS_sl hg.1 hg.2 (by omega) h
theorem dput_any {x : Ins} {o v : Value} {b : List Int} {w : World} (hv : Sl w v b) (hb : b.length ≤ 10000) (hx : SlI w o x.L) (hu : u64R x.K) : Calls Tryd.prog 37 #[v, iv x o] w (PutIs b x w) := by
  obtain ⟨P, c, ho, _⟩ := id hx
  obtain ⟨A0, c0, hv0, _⟩ := id hv
  subst ho hv0
  unfold PutIs
  cases hs : saneI x with
  | false =>
    have hS : ∀ W, Below w.heap.size w W → Calls Tryd.prog 44 #[iv x (.slice P x.L.length c)] W fun en w' => en = .returned (.bool false) ∧ Below W.heap.size W w' := fun W hW => hs ▸ rsane_any (hx.keep hW)
    exact (rput_no _ _ _ _ _ P _ c w hS).mono fun en w' ⟨k1, k2⟩ => ⟨_, k1, Sl.nil _, k2⟩
  | true => exact dput_yes hv hb hx hu hs
end Go.Proofs.YtdmidagcdhhlhaaDoor.Ins
