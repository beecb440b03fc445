/- The document's own reader of a number that is not below 0, walked: it answers what its digits say. -/
import Derived.Test.YtnminpbnlcgblaaLebDigits
namespace Go.Proofs.Ytnminpbnlcgblaa.Leb
open Go.RowKit

/-- Digits of two, the lowest first, as a number. -/
def bval : List Int → Int
  | [] => 0
  | b :: r => b + 2 * bval r
def vU (l : List Int) : Int := bval l % 18446744073709551616
theorem vU_nil : vU [] = 0 := rfl
theorem vU_bounds (l : List Int) : 0 ≤ vU l ∧ vU l ≤ 18446744073709551615 := by unfold vU; omega
theorem vU_cons (b : Int) (l : List Int) : IntKind.u64.wrap (IntKind.u64.wrap (vU l * 2) + b) = vU (b :: l) := by
  rw [IntKind.wrap_u64, IntKind.wrap_u64]
  unfold vU
  simp only [bval]
  omega

theorem b7_dig (c : Int) : ∀ x ∈ b7 c, x = 0 ∨ x = 1 := by
  intro x hx
  simp only [b7, List.mem_cons, List.not_mem_nil, or_false] at hx
  omega

theorem dgl_ok {most : Nat} : ∀ (l : List Int) (n : Nat) (out bl : List Int), 1 ≤ n → n ≤ most → out.length + 7 = 7 * n → (∀ x ∈ out, x = 0 ∨ x = 1) → dgl most l n out = .ok bl → 7 ≤ bl.length ∧ bl.length ≤ 7 * most ∧ bl.length % 7 = 0 ∧ ∀ x ∈ bl, x = 0 ∨ x = 1
  | [], _, _, _, _, _, _, _, h => by cases h
  | c :: r, n, out, bl, h1, h2, h3, h4, h => by
    have hd : ∀ x ∈ out ++ b7 c, x = 0 ∨ x = 1 := fun x hx => by
      rcases List.mem_append.1 hx with h | h
      · exact h4 x h
      · exact b7_dig c x h
    have hl : (out ++ b7 c).length = out.length + 7 := by rw [List.length_append]; rfl
    rw [dgl] at h
    split at h
    · cases h
    · rename_i hf
      split at h
      · injection h with h
        subst h
        exact ⟨by omega, by omega, by omega, hd⟩
      · exact dgl_ok r (n + 1) _ bl (by omega) (by omega) (by omega) hd h

/-- What the document's ReadU answers, of its digits. -/
def hiU (bits : Nat) (l : List Int) : Prop := ∀ t, bits ≤ t → l.getD t 0 = 0
def RTold (w : World) (v p e : Int) (k : IntKind) (en : Ending) (w' : World) : Prop := en = .returned (.tuple #[.int k v, .int .i64 p, .int .i64 e]) ∧ Below w.heap.size w w'

theorem drop_get {l : List Int} {t : Nat} (h : t < l.length) : l.drop t = l.getD t 0 :: l.drop (t + 1) := by
  rw [List.drop_eq_getElem_cons h]
  simp [h]

/-- No digit from j on that lies at the width or above is other than 0. -/
def Clear (bits : Nat) (l : List Int) (j : Nat) : Prop := ∀ t, j ≤ t → bits ≤ t → l.getD t 0 = 0

theorem told_row {w w' : World} {at_ : Nat} {bl : List Int} {e : Ending} (hl : 0 < bl.length) (h : DTold w at_ (.ok bl) e w') :
    ∃ g cp, e = .returned (.tuple #[.slice (some ⟨g, 0, none⟩) bl.length cp, .int .i64 ((at_ + bl.length / 7 : Nat) : Int), .int .i64 0]) ∧ OwnI w' w.heap.size (.slice (some ⟨g, 0, none⟩) bl.length cp) bl ∧ Below w.heap.size w w' := by
  obtain ⟨v, rfl, ho, hb⟩ := h
  obtain ⟨g, cp, hv, _⟩ := World.ownsRow.form ho hl
  subst hv
  exact ⟨g, cp, rfl, ho, hb⟩
theorem OwnI.cell {w : World} {B g cp : Nat} {bl : List Int} (h : OwnI w B (.slice (some ⟨g, 0, none⟩) bl.length cp) bl) (t : Nat) (ht : t < bl.length) : w.cell? ⟨g, t, none⟩ = some (.int .i64 (bl.getD t 0)) := by
  have := World.ownsRow.cellAt h t (by omega)
  rw [this]
  simp [vi, ht]

set_option maxHeartbeats 4000000 in
set_option maxRecDepth 100000 in
theorem refReadU_ok (A : Option Addr) (c bits at_ : Nat) (l bl : List Int) (w : World) (hA : Byt w w.heap.size A l) (hl : l.length ≤ 1000000) (hby : ∀ x ∈ l, 0 ≤ x ∧ x ≤ 255) (hb1 : 1 ≤ bits) (hb64 : bits ≤ 64) (hat : at_ ≤ l.length) (hok : dgl ((bits + 6) / 7) (l.drop at_) 1 [] = .ok bl) :
    (hiU bits bl → Calls Try.prog 33 #[.slice A l.length c, .int .i64 (at_ : Int), .int .i64 (bits : Int)] w (RTold w (vU bl) ((at_ + bl.length / 7 : Nat) : Int) 0 .u64)) ∧
    (¬ hiU bits bl → Calls Try.prog 33 #[.slice A l.length c, .int .i64 (at_ : Int), .int .i64 (bits : Int)] w (RTold w 0 0 3 .u64)) := by
  have HD := Lib.hid (digits_ok A c bits at_ l w hA hl hby hb1 hb64 hat)
  rw [hok] at HD
  obtain ⟨hlo, hhi, _, hdig⟩ := dgl_ok _ 1 [] bl (by omega) (by omega) rfl (by simp) hok
  have hn70 : bl.length ≤ 70 := by omega
  have HDG : Hid (∀ t, 0 ≤ bl.getD t 0 ∧ bl.getD t 0 ≤ 1) := fun t => by
    rcases Nat.lt_or_ge t bl.length with h | h
    · have := hdig bl[t] (List.getElem_mem h)
      simp only [List.getD_eq_getElem?_getD, List.getElem?_eq_getElem h, Option.getD_some]
      omega
    · simp [List.getD_eq_getElem?_getD, List.getElem?_eq_none h]
  clear hA hby hok hdig hhi
  obtain ⟨nx, hnx⟩ : ∃ nx : Nat, nx = at_ + bl.length / 7 := ⟨_, rfl⟩
  have HD2 := Lib.hid (HD.out.mono fun e w' h => told_row (by omega) h)
  rw [← hnx] at HD2 ⊢
  clear HD hnx
  refine ⟨fun hh => ?_, fun hh => ?_⟩
  · have HH := Lib.hid hh
    clear hh
    go_enter Try.func33, Try.ntmps33
    go_wp2_with (go_at_call 45; refine HD2.out.mono ?_; rintro e w1 ⟨g, cp, rfl, o1, hb1⟩)
    have HO := Lib.hid o1
    clear o1 HD2
    go_loop [12, 13] (fun v i => ∃ j : Nat, j ≤ bl.length ∧ i = .int .i64 ((j : Int) - 1) ∧ v = .int .u64 (vU (bl.drop j))) (fun _ i => ((intOf i) + 1).toNat)
    case atStart => exact ⟨bl.length, Nat.le_refl _, rfl, by rw [List.drop_length]; rfl⟩
    case round =>
      obtain ⟨j, hj, rfl, rfl⟩ := hrel
      rcases j with _ | t
      · go_wp2
        go_ret3
        exact ⟨by simp, hb1⟩
      · have hcell := HO.out.cell t (by omega)
        obtain ⟨hd0, hd1⟩ := HDG.out t
        have HV := Lib.hid (vU_cons (bl.getD t 0) (bl.drop (t + 1)))
        rw [← drop_get (by omega)] at HV
        have hvb := vU_bounds (bl.drop (t + 1))
        have HZ : Hid (bits ≤ t → bl.getD t 0 = 0) := fun h => HH.out t h
        generalize bl.getD t 0 = x at hcell hd0 hd1 HV HZ
        generalize vU (bl.drop (t + 1)) = V at HV hvb ⊢
        obtain ⟨hv0, hv1⟩ := hvb
        rw [show (((t + 1 : Nat) : Int) - 1) = (t : Int) from by omega]
        by_cases hbt : bits ≤ t
        · obtain rfl : x = 0 := HZ.out hbt
          go_wp2
          go_round
          case rel => exact ⟨t, by omega, by go_num, by rw [← HV.out]; simp⟩
          case measure => simp [intOf]
        · go_wp2
          go_round
          case rel => exact ⟨t, by omega, by go_num, by rw [← HV.out]⟩
          case measure => simp [intOf]
  · have HH := Lib.hid hh
    clear hh
    go_enter Try.func33, Try.ntmps33
    go_wp2_with (go_at_call 45; refine HD2.out.mono ?_; rintro e w1 ⟨g, cp, rfl, o1, hb1⟩)
    have HO := Lib.hid o1
    clear o1 HD2
    go_loop [12, 13] (fun v i => ∃ (j : Nat) (V : Int), j ≤ bl.length ∧ i = .int .i64 ((j : Int) - 1) ∧ v = .int .u64 V ∧ Clear bits bl j) (fun _ i => ((intOf i) + 1).toNat)
    case atStart => exact ⟨bl.length, 0, Nat.le_refl _, rfl, rfl, fun t ht _ => by simp [List.getD_eq_getElem?_getD, List.getElem?_eq_none ht]⟩
    case round =>
      obtain ⟨j, V, hj, rfl, rfl, hcl⟩ := hrel
      have HC := Lib.hid hcl
      clear hcl
      rcases j with _ | t
      · exact absurd (fun t ht => HC.out t (Nat.zero_le _) ht) HH.out
      · have hcell := HO.out.cell t (by omega)
        obtain ⟨hd0, hd1⟩ := HDG.out t
        have HX : Hid (bl.getD t 0 = bl.getD t 0) := rfl
        generalize hgx : bl.getD t 0 = x at hcell hd0 hd1
        have HGX := Lib.hid hgx
        clear hgx HX
        rw [show (((t + 1 : Nat) : Int) - 1) = (t : Int) from by omega]
        by_cases hbt : bits ≤ t
        · by_cases hx : x = 0
          · subst hx
            have HN : Hid (Clear bits bl t) := fun u hu hb => by
              rcases Nat.lt_or_ge t u with h | h
              · exact HC.out u h hb
              · obtain rfl : u = t := by omega
                exact HGX.out
            go_wp2
            go_round
            case rel => exact ⟨t, _, by omega, by go_num, rfl, HN.out⟩
            case measure => simp [intOf]
          · have hxb : (x != 0) = true := by simp [hx]
            clear hx
            go_wp2
            go_ret3
            exact ⟨rfl, hb1⟩
        · have HN : Hid (Clear bits bl t) := fun u hu hb => HC.out u (by omega) hb
          go_wp2
          go_round
          case rel => exact ⟨t, _, by omega, by go_num, rfl, HN.out⟩
          case measure => simp [intOf]
set_option maxHeartbeats 400000 in
set_option maxRecDepth 100000 in
theorem digits_bad (A : Option Addr) (c : Nat) (bits at_ : Int) (l : List Int) (w : World) (h : badArg l at_ bits) :
    Calls Try.prog 45 #[.slice A l.length c, .int .i64 at_, .int .i64 bits] w fun e w' => e = .returned (.tuple #[.slice none 0 0, .int .i64 0, .int .i64 1]) ∧ w = w' := by
  unfold badArg at h
  by_cases h1 : bits < 1
  · clear h
    go_enter Try.func45, Try.ntmps45
    go_wp2
    go_ret3
    exact ⟨rfl, rfl⟩
  · by_cases h2 : 64 < bits
    · clear h
      go_enter Try.func45, Try.ntmps45
      go_wp2
      go_ret3
      exact ⟨rfl, rfl⟩
    · by_cases h3 : at_ < 0
      · clear h
        go_enter Try.func45, Try.ntmps45
        go_wp2
        go_ret3
        exact ⟨rfl, rfl⟩
      · have h4 : (l.length : Int) < at_ := by omega
        clear h
        go_enter Try.func45, Try.ntmps45
        go_wp2
        go_ret3
        exact ⟨rfl, rfl⟩

set_option maxHeartbeats 400000 in
set_option maxRecDepth 100000 in
theorem refReadU_err (A : Option Addr) (n c : Nat) (bits at_ e : Int) (w : World) (he : (e != 0) = true)
    (h : Calls Try.prog 45 #[.slice A n c, .int .i64 at_, .int .i64 bits] w fun en w' => en = .returned (.tuple #[.slice none 0 0, .int .i64 0, .int .i64 e]) ∧ Below w.heap.size w w') :
    Calls Try.prog 33 #[.slice A n c, .int .i64 at_, .int .i64 bits] w (RTold w 0 0 e .u64) := by
  have H := Lib.hid h
  clear h
  go_enter Try.func33, Try.ntmps33
  go_wp2_with (go_at_call 45; refine H.out.mono ?_; rintro en w1 ⟨rfl, hb1⟩)
  go_ret3
  exact ⟨rfl, hb1⟩
end Go.Proofs.Ytnminpbnlcgblaa.Leb
