/- LebLong walked: a number may be laid with more bytes, that say nothing, as long as its width has them. -/
import Derived.Test.YtognfgiekffmhaaLebBackParts
namespace Go.Proofs.Ytognfgiekffmhaa.Leb
open Go.RowKit

/-- A number's bytes, and k more that say nothing. -/
def uL (v : Nat) (k : Nat) : List Int :=
  if _h : v < 128 then (match k with | 0 => [(v : Int)] | k + 1 => ((v : Int) + 128) :: uL 0 k) else ((v : Int) % 128 + 128) :: uL (v / 128) k
termination_by (v, k)
decreasing_by
  · by_cases h0 : v = 0
    · subst h0; exact Prod.Lex.right _ (by omega)
    · exact Prod.Lex.left _ _ (by omega)
  · exact Prod.Lex.left _ _ (by omega)

theorem uL_small {v : Nat} (h : v < 128) : uL v 0 = [(v : Int)] := by rw [uL, dif_pos h]
theorem uL_more {v : Nat} (k : Nat) (h : v < 128) : uL v (k + 1) = ((v : Int) + 128) :: uL 0 k := by rw [uL, dif_pos h]
theorem uL_great {v : Nat} (k : Nat) (h : 128 ≤ v) : uL v k = ((v : Int) % 128 + 128) :: uL (v / 128) k := by rw [uL.eq_def, dif_neg (by omega)]

theorem uL_zero : ∀ (n v : Nat), v ≤ n → uL v 0 = uB v
  | 0, v, h => by rw [uL_small (by omega), uB_small (by omega)]
  | n + 1, v, h => by
    by_cases hs : v < 128
    · rw [uL_small hs, uB_small hs]
    · rw [uL_great 0 (by omega), uB_great (by omega), uL_zero n (v / 128) (by omega)]

/-- One byte more: the last one is 128 greater, and a 0 behind. -/
theorem uL_next : ∀ (n k v : Nat), v + k ≤ n → ∃ p x, uL v k = p ++ [x] ∧ 0 ≤ x ∧ x < 128 ∧ uL v (k + 1) = p ++ [x + 128, 0]
  | 0, k, v, h => by
    obtain rfl : v = 0 := by omega
    obtain rfl : k = 0 := by omega
    exact ⟨[], 0, by rw [uL_small (by omega)]; rfl, by omega, by omega, by rw [uL_more 0 (by omega), uL_small (by omega)]; rfl⟩
  | n + 1, k, v, h => by
    by_cases hs : v < 128
    · rcases k with _ | k
      · exact ⟨[], v, by rw [uL_small hs]; rfl, by omega, by omega, by rw [uL_more 0 hs, uL_small (by omega)]; rfl⟩
      · obtain ⟨p, x, h1, h2, h3, h4⟩ := uL_next n k 0 (by omega)
        exact ⟨((v : Int) + 128) :: p, x, by rw [uL_more k hs, h1]; rfl, h2, h3, by rw [uL_more (k + 1) hs, h4]; rfl⟩
    · obtain ⟨p, x, h1, h2, h3, h4⟩ := uL_next n k (v / 128) (by omega)
      exact ⟨((v : Int) % 128 + 128) :: p, x, by rw [uL_great k (by omega), h1]; rfl, h2, h3, by rw [uL_great (k + 1) (by omega), h4]; rfl⟩

theorem uL_length : ∀ (n k v : Nat), v + k ≤ n → (uL v k).length = lenU v + k
  | 0, k, v, h => by
    obtain rfl : v = 0 := by omega
    obtain rfl : k = 0 := by omega
    rw [uL_small (by omega), lenU_small (by omega)]; rfl
  | n + 1, k, v, h => by
    by_cases hs : v < 128
    · rcases k with _ | k
      · rw [uL_small hs, lenU_small hs]; rfl
      · rw [uL_more k hs, List.length_cons, uL_length n k 0 (by omega), lenU_small hs, lenU_small (by omega)]; omega
    · rw [uL_great k (by omega), List.length_cons, uL_length n k (v / 128) (by omega), lenU_great (v := v) (by omega)]; omega

theorem uL_byte : ∀ (n k v : Nat), v + k ≤ n → ∀ x ∈ uL v k, 0 ≤ x ∧ x ≤ 255
  | 0, k, v, h => by
    obtain rfl : v = 0 := by omega
    obtain rfl : k = 0 := by omega
    rw [uL_small (by omega)]; simp
  | n + 1, k, v, h => by
    by_cases hs : v < 128
    · rcases k with _ | k
      · rw [uL_small hs]; simp; omega
      · rw [uL_more k hs]
        intro x hx
        rcases List.mem_cons.1 hx with rfl | hx
        · omega
        · exact uL_byte n k 0 (by omega) x hx
    · rw [uL_great k (by omega)]
      intro x hx
      rcases List.mem_cons.1 hx with rfl | hx
      · omega
      · exact uL_byte n k (v / 128) (by omega) x hx

theorem rd_long : ∀ (n k u lo acc : Nat), u + k ≤ n → lo ≤ 63 → lo % 7 = 0 → acc < 2 ^ lo → acc + u * 2 ^ lo < 18446744073709551616 →
    rdl fitU 64 (uL u k) lo acc = if lo + 7 * (lenU u + k) ≤ 70 then .ok (acc + u * 2 ^ lo) (lo + 7 * (lenU u + k)) else .form := by
  intro n
  induction n with
  | zero =>
    intro k u lo acc hn hlo hm ha hb
    obtain rfl : u = 0 := by omega
    obtain rfl : k = 0 := by omega
    rw [uL_small (by omega), lenU_small (by omega), if_pos (by omega), rdl_ok (fun _ => (fitU_iff 0 _).2 (Nat.pow_pos (by omega))) (by omega), more_small acc lo _ 0 (by rfl) (by simp)]
  | succ n ih =>
    intro k u lo acc hn hlo hm ha hb
    have hp := pow_split lo 64 (by omega)
    have hpos : 0 < (2 : Nat) ^ lo := Nat.pow_pos (by omega)
    by_cases hs : u < 128
    · rcases k with _ | k
      · rw [uL_small hs, lenU_small hs, if_pos (by omega)]
        have hf : u < 2 ^ (64 - lo) := by
          rcases Nat.lt_or_ge u (2 ^ (64 - lo)) with h | h
          · exact h
          · have : 2 ^ lo * 2 ^ (64 - lo) ≤ u * 2 ^ lo := by rw [Nat.mul_comm u]; exact Nat.mul_le_mul_left _ h
            rw [← hp] at this
            omega
        rw [rdl_ok (fun _ => (fitU_iff u _).2 hf) (by omega), more_small acc lo _ u (by omega) (by omega)]
      · rw [uL_more k hs, lenU_small hs]
        by_cases h7 : 64 ≤ lo + 7
        · rw [if_neg (by omega)]
          exact rdl_form h7 (.inl (by omega))
        · have hl7 : (2 : Nat) ^ (lo + 7) = 2 ^ lo * 128 := by rw [Nat.pow_add]
          have hmul : u * 2 ^ lo ≤ 127 * 2 ^ lo := Nat.mul_le_mul_right _ (by omega)
          rw [rdl, if_neg (by omega), if_neg (by omega), more_small acc lo _ u (by omega) (by omega)]
          rw [ih k 0 (lo + 7) _ (by omega) (by omega) (by omega) (by rw [hl7]; omega) (by omega), lenU_small (by omega)]
          rw [show lo + 7 + 7 * (1 + k) = lo + 7 * (1 + (k + 1)) from by omega]
          simp only [Nat.zero_mul, Nat.add_zero]
    · rw [uL_great k (by omega), lenU_great (by omega)]
      by_cases h7 : 64 ≤ lo + 7
      · exfalso
        have : (2 : Nat) ^ 57 ≤ 2 ^ lo := Nat.pow_le_pow_right (by omega) (by omega)
        have h3 : 128 * 2 ^ lo ≤ u * 2 ^ lo := Nat.mul_le_mul_right _ (by omega)
        omega
      · have hl7 : (2 : Nat) ^ (lo + 7) = 2 ^ lo * 128 := by rw [Nat.pow_add]
        have hmul : (u % 128) * 2 ^ lo ≤ 127 * 2 ^ lo := Nat.mul_le_mul_right _ (by omega)
        have h63 : (2 : Nat) ^ (lo + 7) ≤ 2 ^ 63 := Nat.pow_le_pow_right (by omega) (by omega)
        have hsum : acc + u % 128 * 2 ^ lo + u / 128 * 2 ^ (lo + 7) = acc + u * 2 ^ lo := by
          rw [hl7]
          have : u * 2 ^ lo = (u % 128) * 2 ^ lo + (u / 128) * (2 ^ lo * 128) := by
            have e : u = u % 128 + u / 128 * 128 := by omega
            rw [show (u / 128) * (2 ^ lo * 128) = (u / 128 * 128) * 2 ^ lo from by rw [Nat.mul_assoc, Nat.mul_comm 128]]
            rw [← Nat.add_mul]
            rw [← e]
          omega
        rw [rdl, if_neg (by omega), if_neg (by omega), more_small acc lo _ (u % 128) (by omega) (by omega)]
        rw [ih k (u / 128) (lo + 7) _ (by omega) (by omega) (by omega) (by rw [hl7]; omega) (by rw [hsum]; exact hb), hsum]
        rw [show lo + 7 + 7 * (lenU (u / 128) + k) = lo + 7 * (lenU (u / 128) + 1 + k) from by omega]

/-- Bytes of the call's own whose last one is written anew. -/
theorem Own.last {w : World} {B g n c : Nat} {p : List Int} {x y : Int} (h : Own w B (.slice (some ⟨g, 0, none⟩) n c) (p ++ [x])) : Own (w.setCell ⟨g, p.length, none⟩ (.int .u8 y)) B (.slice (some ⟨g, 0, none⟩) n c) (p ++ [y]) := by
  obtain ⟨⟨g', c', e⟩, ho⟩ := h
  have hn : n = (p ++ [x]).length := by injection e
  subst hn
  have := ho.stored p.length (.int .u8 y)
  refine ⟨⟨g, c, by simp⟩, ?_⟩
  have e1 : (vb (p ++ [x])).set p.length (.int .u8 y) = vb (p ++ [y]) := by simp [vb]
  rw [e1] at this
  simpa using this.1

def Long (w : World) (B v : Nat) (j : Nat) (a : Value) (wr : World) : Prop := Own wr B a (uL v j) ∧ Below B w wr ∧ B ≤ wr.heap.size

theorem longU_yes (W : World) (B v k : Nat) (x : Value) (h : Own W B x (uL v k)) (hv : v < 18446744073709551616) (ht : lenU v + k ≤ 10) :
    Calls Try.prog 19 #[x, .int .i64 0, .int .i64 64] W fun e w' => e = .returned (.tuple #[.int .u64 (v : Int), .int .i64 ((lenU v + k : Nat) : Int), .int .i64 0]) ∧ Below W.heap.size W w' := by
  have := ReadU_own W B x _ 64 0 h (by rw [uL_length _ k v (Nat.le_refl _)]; omega) (uL_byte _ k v (Nat.le_refl _)) (by omega) (by omega) (by omega)
  rw [List.drop_zero, rd_long _ k v 0 0 (Nat.le_refl _) (by omega) rfl (by simp) (by omega), if_pos (by omega)] at this
  simp only [uV, uP, uE] at this
  rw [show 0 + v * 2 ^ 0 = v from by omega, show 0 + (0 + 7 * (lenU v + k)) / 7 = lenU v + k from by omega] at this
  exact this
theorem longU_no (W : World) (B v k : Nat) (x : Value) (h : Own W B x (uL v k)) (hk : k ≤ 15) (hv : v < 18446744073709551616) (ht : ¬ lenU v + k ≤ 10) (h10 : lenU v ≤ 10) :
    Calls Try.prog 19 #[x, .int .i64 0, .int .i64 64] W fun e w' => e = .returned (.tuple #[.int .u64 0, .int .i64 0, .int .i64 3]) ∧ Below W.heap.size W w' := by
  have := ReadU_own W B x _ 64 0 h (by rw [uL_length _ k v (Nat.le_refl _)]; omega) (uL_byte _ k v (Nat.le_refl _)) (by omega) (by omega) (by omega)
  rw [List.drop_zero, rd_long _ k v 0 0 (Nat.le_refl _) (by omega) rfl (by simp) (by omega), if_neg (by omega)] at this
  exact this

set_option maxHeartbeats 2000000 in
set_option maxRecDepth 100000 in
theorem long_core (v k : Nat) (n : Int) (w : World) (hv : v < 18446744073709551616) (hk : (k : Int) = n % 16) :
    Calls Try.prog 6 #[.int .u64 (v : Int), .int .i64 n] w fun e w' => e = .returned (.bool true) ∧ Below w.heap.size w w' := by
  have hnn := i64_and15 n
  rw [← hk] at hnn
  have lu := lenU_ten hv
  have lu1 := lenU_pos v
  have hk15 : k ≤ 15 := by omega
  have Hv := Lib.hid hv
  have HU := Lib.hid (fun W => U_nil v W hv)
  have Hlen := Lib.hid (fun j => uL_length _ j v (Nat.le_refl _))
  have Hby := Lib.hid (fun j => uL_byte _ j v (Nat.le_refl _))
  clear hv hk
  go_enter Try.func6, Try.ntmps6
  go_wp2_with (go_at_call 10; refine (awake_any _).mono ?_; rintro e w1 ⟨rfl, hb1⟩)
  refine (HU.out _).mono ?_
  rintro e w2 ⟨va, rfl, oa, hb2⟩
  have b2 := hb1.trans (hb2.mono hb1.size)
  rw [← uL_zero v v (Nat.le_refl _)] at oa
  have oa2 := oa.mono hb1.size
  have hlen0 := Hlen.out 0
  obtain ⟨ga, ca, rfl⟩ := oa.1
  have ne0 : (((uL v 0).length : Int) == 0) = false := by rw [hlen0]; simp; omega
  have HO := Lib.hid oa2
  clear hb1 hb2 oa oa2 HU hlen0
  go_wp2_with fail
  go_loopw [6, 8] (fun a i wr => ∃ j : Nat, i = .int .i64 (j : Int) ∧ j ≤ k ∧ Long w w.heap.size v j a wr) (fun _ i _ => k - (intOf i).toNat)
  case atStart => exact ⟨0, rfl, by omega, HO.out, b2, b2.size⟩
  case round =>
    obtain ⟨j, rfl, hjk, ho, hb, hB⟩ := hrel
    clear HO ne0
    by_cases hlt : j < k
    · obtain ⟨p, x, h1, hx0, hx1, h2⟩ := uL_next _ j v (Nat.le_refl _)
      have hlen := Hlen.out j
      rw [h1] at ho hlen
      obtain ⟨g, c, rfl⟩ := ho.1
      have hcell := ho.2.cellAt p.length (by simp)
      have hfr := ho.2.frozenAt p.length
      have hroom := ho.room
      rw [show (vb (p ++ [x]))[p.length]? = some (.int .u8 x) from by simp [vb]] at hcell
      rw [List.length_append, List.length_singleton] at hlen hroom
      have HO2 := Lib.hid (ho.last (y := x + 128))
      have HE : Hid (p ++ [x + 128, 0] = uL v (j + 1)) := by show _ = _; rw [h2]
      have Hpl : Hid ((p ++ [x]).length = p.length + 1) := by show _ = _; simp
      have hor := u8_or128_right x hx0 hx1
      have hq : p.length ≤ 100 := by omega
      have Hpl2 : Hid ((p ++ [x + 128]).length = p.length + 1) := by show _ = _; simp
      have e1 := Hpl.out
      clear h1 h2 ho hlen
      go_wp2_with (at_builtin; refine wp_byte (wr.setCell ⟨g, p.length, none⟩ (.int .u8 (x + 128))) rfl (.tmp 37) (.tmp 38) rfl w.heap.size _ (p ++ [x + 128]) 0 rfl ?h1 ?h2 ?h3 ?h4 ?_)
      case h1 => exact HO2.out
      case h2 => rw [show (wr.setCell ⟨g, p.length, none⟩ (.int .u8 (x + 128))).heap.size = wr.heap.size from by simp [World.setCell]]; rfl
      case h3 => rw [Hpl2.out]; omega
      case h4 => simpa [World.setCell] using hB
      intro v3 w3 o3 hb3
      have hbb := hb.setCell (p := ⟨g, p.length, none⟩) (HO2.out.block g rfl) (.int .u8 (x + 128))
      have HR : Hid (Long w w.heap.size v (j + 1) v3 w3) := ⟨by rw [← HE.out]; exact o3, hbb.trans hb3, by have := hb3.size; simp [World.setCell] at this; omega⟩
      clear o3 hb3 hbb
      go_wp2
      go_roundw
      case rel => exact ⟨j + 1, by go_num, by omega, HR.out⟩
      case measure => simp [intOf]; omega
    · obtain rfl : j = k := by omega
      have hlen := Hlen.out j
      obtain ⟨g, c, rfl⟩ := ho.1
      have HO := Lib.hid ho
      clear ho hjk
      by_cases ht : lenU v + j ≤ 10
      · have HC := Lib.hid (longU_yes wr _ v j _ HO.out Hv.out ht)
        rw [hlen] at HC
        clear HO
        go_wp2_with (go_at_call 19; refine HC.out.mono ?_; rintro e w4 ⟨rfl, hb4⟩)
        go_ret
        exact ⟨rfl, hb.trans (hb4.mono hB)⟩
      · have HC := Lib.hid (longU_no wr _ v j _ HO.out hk15 Hv.out ht lu)
        rw [hlen] at HC
        clear HO
        go_wp2_with (go_at_call 19; refine HC.out.mono ?_; rintro e w4 ⟨rfl, hb4⟩)
        go_ret
        exact ⟨rfl, hb.trans (hb4.mono hB)⟩

theorem long_any (v n : Int) (w : World) (hv : (Lit.int .u64 v).wf = true) :
    Calls Try.prog 6 #[.int .u64 v, .int .i64 n] w fun e w' => e = .returned (.bool true) ∧ Below w.heap.size w w' := by
  have b1 := bounds_u64 hv
  obtain ⟨u, rfl⟩ := Int.eq_ofNat_of_zero_le b1.1
  obtain ⟨k, hk⟩ := Int.eq_ofNat_of_zero_le (show 0 ≤ n % 16 by omega)
  exact long_core u k n w (by omega) hk.symm
end Go.Proofs.Ytognfgiekffmhaa.Leb
