/- LebBack walked: a number that is laid is read as it was, by its width and any greater one; by a lesser one it is not; a byte less is too short. -/
import Derived.Test.YtnminpbnlcgblaaLebBackMath
import Derived.Test.YtnminpbnlcgblaaLebAwake
import Derived.Test.YtnminpbnlcgblaaLebCame
import Derived.Test.YtnminpbnlcgblaaLebRef
namespace Go.Proofs.Ytnminpbnlcgblaa.Leb
open Go.RowKit

/-- Bytes of a number are bytes. -/
theorem uB_byte (v : Nat) : ∀ x ∈ uB v, 0 ≤ x ∧ x ≤ 255 := uB_one v v (Nat.le_refl _)
theorem sB_byte (v : Int) : ∀ x ∈ sB v, 0 ≤ x ∧ x ≤ 255 := sB_one _ v (Nat.le_refl _)
theorem app_byte {a b : List Int} (ha : ∀ x ∈ a, 0 ≤ x ∧ x ≤ 255) (hb : ∀ x ∈ b, 0 ≤ x ∧ x ≤ 255) : ∀ x ∈ a ++ b, 0 ≤ x ∧ x ≤ 255 := fun x hx => by
  rcases List.mem_append.1 hx with h | h
  · exact ha x h
  · exact hb x h

theorem Own.slice {w : World} {B : Nat} {v : Value} {l : List Int} (h : Own w B v l) : ∃ A c, v = .slice A l.length c ∧ Byt w w.heap.size A l := by
  obtain ⟨g, c, rfl⟩ := h.1
  exact ⟨_, c, rfl, h.byt⟩

/-- What ReadU and ReadS answer of bytes of the call's own. -/
theorem ReadU_own (W : World) (B : Nat) (v : Value) (l : List Int) (bits at_ : Nat) (h : Own W B v l) (hl : l.length ≤ 1000000) (hby : ∀ x ∈ l, 0 ≤ x ∧ x ≤ 255) (hb1 : 1 ≤ bits) (hb64 : bits ≤ 64) (hat : at_ ≤ l.length) :
    Calls Try.prog 32 #[v, .int .i64 (at_ : Int), .int .i64 (bits : Int)] W fun e w' => e = .returned (.tuple #[.int .u64 (uV (rdl fitU bits (l.drop at_) 0 0)), .int .i64 (uP at_ (rdl fitU bits (l.drop at_) 0 0)), .int .i64 (uE (rdl fitU bits (l.drop at_) 0 0))]) ∧ Below W.heap.size W w' := by
  obtain ⟨A, c, rfl, hA⟩ := h.slice
  exact ReadU_is A c bits at_ l W hA hl hby hb1 hb64 hat
theorem U_nil (v : Nat) (W : World) (hv : v < 18446744073709551616) : Calls Try.prog 38 #[.slice none 0 0, .int .u64 (v : Int)] W (Laid W (uB v)) :=
  U_any none 0 v [] W (byt_nil _ _ _) (by simp) hv
theorem Own.keep {w w' : World} {B : Nat} {v : Value} {l : List Int} (h : Own w B v l) (hb : Below w.heap.size w w') : Own w' B v l :=
  ⟨h.1, h.2.kept ⟨hb.os, hb.tape, hb.output, hb.size, fun k hk _ => hb.block k hk⟩ (row := none) (by cases v.ownBlock <;> simp)⟩

theorem short_of {fit : Int → Nat → Bool} : ∀ (l : List Int) (lo acc : Nat), (∀ x ∈ l, 128 ≤ x) → lo + 7 * l.length ≤ 63 → rdl fit 64 l lo acc = .short
  | [], _, _, _, _ => rfl
  | c :: r, lo, acc, h, hl => by
    have hc := h c (by simp)
    rw [List.length_cons] at hl
    rw [rdl, if_neg (by omega), if_neg (by omega)]
    exact short_of r (lo + 7) _ (fun x hx => h x (by simp [hx])) (by omega)

theorem uB_front : ∀ (n v m : Nat), v ≤ n → m + 1 ≤ lenU v → ∀ x ∈ (uB v).take m, 128 ≤ x
  | 0, v, m, hn, hm => by
    rw [lenU_small (by omega)] at hm
    obtain rfl : m = 0 := by omega
    simp
  | n + 1, v, m, hn, hm => by
    by_cases hs : v < 128
    · rw [lenU_small hs] at hm
      obtain rfl : m = 0 := by omega
      simp
    · rw [lenU_great (by omega)] at hm
      rw [uB_great (by omega)]
      rcases m with _ | m
      · simp
      · intro x hx
        rw [List.take_succ_cons] at hx
        rcases List.mem_cons.1 hx with rfl | hx
        · omega
        · exact uB_front n (v / 128) m (by omega) (by omega) x hx
theorem sB_front : ∀ (n : Nat) (v : Int) (m : Nat), v.natAbs ≤ n → m + 1 ≤ lenS v → ∀ x ∈ (sB v).take m, 128 ≤ x
  | 0, v, m, hn, hm => by
    rw [lenS_small (by omega)] at hm
    obtain rfl : m = 0 := by omega
    simp
  | n + 1, v, m, hn, hm => by
    by_cases hs : -64 ≤ v ∧ v ≤ 63
    · rw [lenS_small hs] at hm
      obtain rfl : m = 0 := by omega
      simp
    · rw [lenS_great hs] at hm
      rw [sB_great hs]
      rcases m with _ | m
      · simp
      · intro x hx
        rw [List.take_succ_cons] at hx
        rcases List.mem_cons.1 hx with rfl | hx
        · omega
        · exact sB_front n (v / 128) m (by omega) (by omega) x hx

theorem Own.cut {w : World} {B g n c : Nat} {l : List Int} (h : Own w B (.slice (some ⟨g, 0, none⟩) n c) l) (m : Nat) : Byt w w.heap.size (some ⟨g, 0, none⟩) (l.take m) := by
  intro h0
  have hl : 0 < l.length := by
    rcases l with _ | ⟨x, l⟩
    · simp at h0
    · simp
  obtain ⟨ad, e, hb, hc⟩ := h.byt hl
  refine ⟨ad, e, hb, fun j u hu => hc j u ?_⟩
  simp only [vb] at hu ⊢
  rw [List.map_take, List.getElem?_take] at hu
  split at hu
  · exact hu
  · cases hu

theorem shortU (W : World) (B g n c v m : Nat) (h : Own W B (.slice (some ⟨g, 0, none⟩) n c) (uB v)) (hm : m + 1 ≤ lenU v) (ht : lenU v ≤ 10) :
    Calls Try.prog 32 #[.slice (some ⟨g, 0, none⟩) m c, .int .i64 0, .int .i64 64] W fun e w' => e = .returned (.tuple #[.int .u64 0, .int .i64 0, .int .i64 2]) ∧ Below W.heap.size W w' := by
  have hlen : ((uB v).take m).length = m := by rw [List.length_take, uB_len]; omega
  have := ReadU_is (some ⟨g, 0, none⟩) c 64 0 ((uB v).take m) W (h.cut m) (by omega) (fun x hx => uB_byte v x (List.mem_of_mem_take hx)) (by omega) (by omega) (by omega)
  rw [List.drop_zero, short_of _ 0 0 (uB_front v v m (Nat.le_refl _) hm) (by omega), hlen] at this
  exact this
theorem backU_yes (W : World) (B K v : Nat) (x : Value) (l : List Int) (h : Own W B x (uB v ++ l)) (hl : l.length ≤ 10000) (hby : ∀ y ∈ l, 0 ≤ y ∧ y ≤ 255) (hv : lenU v ≤ 10) (hK1 : 1 ≤ K) (hK : K ≤ 64) (hf : v < 2 ^ K) :
    Calls Try.prog 32 #[x, .int .i64 0, .int .i64 (K : Int)] W fun e w' => e = .returned (.tuple #[.int .u64 (v : Int), .int .i64 (lenU v : Int), .int .i64 0]) ∧ Below W.heap.size W w' := by
  have := ReadU_own W B x _ K 0 h (by rw [List.length_append, uB_len]; omega) (app_byte (uB_byte v) hby) hK1 hK (by omega)
  rw [List.drop_zero, rdU_back K hK l v v 0 0 (Nat.le_refl _) (by omega) rfl (by simp), Nat.sub_zero, if_pos hf] at this
  simp only [uV, uP, uE] at this
  rw [show 0 + v * 2 ^ 0 = v from by omega, show 0 + (0 + 7 * lenU v) / 7 = lenU v from by omega] at this
  exact this
theorem backU_no (W : World) (B K v : Nat) (x : Value) (l : List Int) (h : Own W B x (uB v ++ l)) (hl : l.length ≤ 10000) (hby : ∀ y ∈ l, 0 ≤ y ∧ y ≤ 255) (hv : lenU v ≤ 10) (hK1 : 1 ≤ K) (hK : K ≤ 64) (hf : ¬ v < 2 ^ K) :
    Calls Try.prog 32 #[x, .int .i64 0, .int .i64 (K : Int)] W fun e w' => e = .returned (.tuple #[.int .u64 0, .int .i64 0, .int .i64 3]) ∧ Below W.heap.size W w' := by
  have := ReadU_own W B x _ K 0 h (by rw [List.length_append, uB_len]; omega) (app_byte (uB_byte v) hby) hK1 hK (by omega)
  rw [List.drop_zero, rdU_back K hK l v v 0 0 (Nat.le_refl _) (by omega) rfl (by simp), Nat.sub_zero, if_neg hf] at this
  exact this
theorem Own.room {w : World} {B : Nat} {g n c : Nat} {l : List Int} (h : Own w B (.slice (some ⟨g, 0, none⟩) n c) l) : l.length ≤ c := by
  rcases h.2.2 with ⟨e, _⟩ | ⟨g', c', cur, e, _, _, hn, _⟩
  · cases e
  · injection e with _ _ e
    omega
theorem pow2_u (n : Int) (K : Nat) (hK : (K : Int) = 1 + n % 64) (hlt : K < 64) : IntKind.u64.wrap (2 ^ (1 + n % 64).toNat) = ((2 ^ K : Nat) : Int) := by
  rw [show (1 + n % 64).toNat = K from by omega, IntKind.wrap_u64]
  have h : (2 : Nat) ^ K ≤ 2 ^ 63 := Nat.pow_le_pow_right (by omega) (by omega)
  have e : ((2 : Int) ^ K) = ((2 ^ K : Nat) : Int) := by simp
  rw [e]
  generalize (2 : Nat) ^ K = p at h ⊢
  omega
theorem pow2_s (n : Int) (K : Nat) (hK : (K : Int) = 1 + n % 64) (hlt : K < 64) : wrap64 (2 ^ ((1 + n % 64).toNat - 1)) = 2 ^ (K - 1) ∧ wrap64 (-2 ^ ((1 + n % 64).toNat - 1)) = -2 ^ (K - 1) := by
  rw [show (1 + n % 64).toNat = K from by omega]
  have h : (2 : Nat) ^ (K - 1) ≤ 2 ^ 62 := Nat.pow_le_pow_right (by omega) (by omega)
  have e : ((2 : Int) ^ (K - 1)) = ((2 ^ (K - 1) : Nat) : Int) := by simp
  rw [e]
  generalize (2 : Nat) ^ (K - 1) = p at h ⊢
  unfold wrap64
  omega

end Go.Proofs.Ytnminpbnlcgblaa.Leb
