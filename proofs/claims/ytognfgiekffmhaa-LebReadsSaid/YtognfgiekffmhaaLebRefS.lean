/- The document's own reader of a number that may be below 0, walked: it answers what its digits say. -/
import Derived.Test.YtognfgiekffmhaaLebRefU
namespace Go.Proofs.Ytognfgiekffmhaa.Leb
open Go.RowKit

def vSr (s : Int) : List Int → Int
  | [] => s
  | b :: r => wrap64 (wrap64 (vSr s r * 2) + b)
def topS (l : List Int) : Int := if l.getD (l.length - 1) 0 = 1 then -1 else 0
def vS (l : List Int) : Int := vSr (topS l) l
def hiS (bits : Nat) (l : List Int) : Prop := ∀ t, bits ≤ t → t < l.length → l.getD t 0 = l.getD (bits - 1) 0
def UpS (bits : Nat) (l : List Int) (j : Nat) : Prop := ∀ t, bits ≤ t → t < j → l.getD t 0 = l.getD (bits - 1) 0

theorem below_drewN' {B : Nat} {a w : World} (h : Below B a w) (n : Nat) : Below B a (w.drewN n) := ⟨h.os, h.tape, h.output, h.size, h.block⟩

set_option maxHeartbeats 4000000 in
set_option maxRecDepth 100000 in
theorem refReadS_ok (A : Option Addr) (c b1 at_ : Nat) (l bl : List Int) (w : World) (hA : Byt w w.heap.size A l) (hl : l.length ≤ 1000000) (hby : ∀ x ∈ l, 0 ≤ x ∧ x ≤ 255) (hb64 : b1 + 1 ≤ 64) (hat : at_ ≤ l.length) (hok : dgl ((b1 + 1 + 6) / 7) (l.drop at_) 1 [] = .ok bl) :
    (hiS (b1 + 1) bl → Calls Try.prog 22 #[.slice A l.length c, .int .i64 (at_ : Int), .int .i64 ((b1 + 1 : Nat) : Int)] w (RTold w (vS bl) ((at_ + bl.length / 7 : Nat) : Int) 0 .i64)) ∧
    (¬ hiS (b1 + 1) bl → Calls Try.prog 22 #[.slice A l.length c, .int .i64 (at_ : Int), .int .i64 ((b1 + 1 : Nat) : Int)] w (RTold w 0 0 3 .i64)) := by
  have HD := Lib.hid (digits_ok A c (b1 + 1) at_ l w hA hl hby (by omega) hb64 hat)
  rw [hok] at HD
  obtain ⟨hlo, hhi, _, hdig⟩ := dgl_ok _ 1 [] bl (by omega) (by omega) rfl (by simp) hok
  have hn70 : bl.length ≤ 70 := by omega
  have HDG : Hid (∀ t, 0 ≤ bl.getD t 0 ∧ bl.getD t 0 ≤ 1) := fun t => by
    rcases Nat.lt_or_ge t bl.length with h | h
    · have := hdig bl[t] (List.getElem_mem h)
      simp only [List.getD_eq_getElem?_getD, List.getElem?_eq_getElem h, Option.getD_some]
      omega
    · simp [List.getD_eq_getElem?_getD, List.getElem?_eq_none h]
  clear hA hby hok hdig hhi
  obtain ⟨nx, hnx⟩ : ∃ nx : Nat, nx = at_ + bl.length / 7 := ⟨_, rfl⟩
  have HD2 := Lib.hid (HD.out.mono fun e w' h => told_row (by omega) h)
  rw [← hnx] at HD2 ⊢
  have eb : ((b1 + 1 : Nat) : Int) = (b1 : Int) + 1 := by omega
  rw [eb] at HD2 ⊢
  clear HD hnx eb
  refine ⟨fun hh => ?_, fun hh => ?_⟩
  · have HH := Lib.hid hh
    clear hh
    go_enter Try.func22, Try.ntmps22
    go_wp2_with (go_at_call 27; refine HD2.out.mono ?_; rintro e w1 ⟨g, cp, rfl, o1, hb1⟩)
    have HO := Lib.hid o1
    clear o1 HD2
    go_loopw [12] (fun i wr => ∃ t m : Nat, b1 + 1 ≤ t ∧ i = .int .i64 (t : Int) ∧ wr = w1.drewN m) (fun i _ => 70 - (intOf i).toNat)
    case atStart => exact ⟨b1 + 1, 0, Nat.le_refl _, by go_num, rfl⟩
    case round =>
      obtain ⟨t, m, ht, rfl, rfl⟩ := hrel
      by_cases hlt : t < bl.length
      · have hcell := HO.out.cell t hlt
        have hcell2 := HO.out.cell b1 (by omega)
        rw [HH.out t ht hlt, show b1 + 1 - 1 = b1 from by omega] at hcell
        generalize bl.getD b1 0 = x at hcell hcell2
        have hi1 : (t : Int) < (bl.length : Int) := by omega
        have hi2 : (b1 : Int) < (bl.length : Int) := by omega
        go_wp2
        go_quiet (fail)
        go_wp2
        go_roundw
        case rel => exact ⟨t + 1, _, by omega, by go_num, rfl⟩
        case measure => simp [intOf]; omega
      · have hcell := HO.out.cell (bl.length - 1) (by omega)
        have hlast : (0 : Int) ≤ (bl.length : Int) - 1 := by omega
        by_cases ht1 : bl.getD (bl.length - 1) 0 = 1
        · rw [ht1] at hcell
          have HT1 := Lib.hid ht1
          clear ht1
          go_wp2
          go_loop [13, 14] (fun v i => ∃ j : Nat, j ≤ bl.length ∧ i = .int .i64 ((j : Int) - 1) ∧ v = .int .i64 (vSr (-1) (bl.drop j))) (fun _ i => ((intOf i) + 1).toNat)
          case atStart => exact ⟨bl.length, Nat.le_refl _, rfl, by rw [List.drop_length]; rfl⟩
          case round =>
            obtain ⟨j, hj, rfl, rfl⟩ := hrel
            rcases j with _ | t
            · go_wp2
              go_ret3
              refine ⟨?_, below_drewN' hb1 _⟩
              have : vS bl = vSr (-1) bl := by unfold vS topS; rw [if_pos HT1.out]
              rw [this]
              simp
            · have hcell := HO.out.cell t (by omega)
              obtain ⟨hd0, hd1⟩ := HDG.out t
              have HV : Hid (vSr (-1) (bl.drop t) = wrap64 (wrap64 (vSr (-1) (bl.drop (t + 1)) * 2) + bl.getD t 0)) := by show _ = _; rw [drop_get (by omega)]; rfl
              generalize bl.getD t 0 = x at hcell hd0 hd1 HV
              generalize vSr (-1) (bl.drop (t + 1)) = V at HV ⊢
              rw [show (((t + 1 : Nat) : Int) - 1) = (t : Int) from by omega]
              go_wp2
              go_round
              case rel => exact ⟨t, by omega, by go_num, by rw [HV.out]⟩
              case measure => simp [intOf]
        · have HT1 := Lib.hid ht1
          generalize hgx : bl.getD (bl.length - 1) 0 = z at hcell ht1
          have hz : (z == 1) = false := by simpa using ht1
          clear hgx ht1
          go_wp2
          go_loop [13, 14] (fun v i => ∃ j : Nat, j ≤ bl.length ∧ i = .int .i64 ((j : Int) - 1) ∧ v = .int .i64 (vSr (0) (bl.drop j))) (fun _ i => ((intOf i) + 1).toNat)
          case atStart => exact ⟨bl.length, Nat.le_refl _, rfl, by rw [List.drop_length]; rfl⟩
          case round =>
            obtain ⟨j, hj, rfl, rfl⟩ := hrel
            rcases j with _ | t
            · go_wp2
              go_ret3
              refine ⟨?_, below_drewN' hb1 _⟩
              have : vS bl = vSr (0) bl := by unfold vS topS; rw [if_neg HT1.out]
              rw [this]
              simp
            · have hcell := HO.out.cell t (by omega)
              obtain ⟨hd0, hd1⟩ := HDG.out t
              have HV : Hid (vSr (0) (bl.drop t) = wrap64 (wrap64 (vSr (0) (bl.drop (t + 1)) * 2) + bl.getD t 0)) := by show _ = _; rw [drop_get (by omega)]; rfl
              generalize bl.getD t 0 = x at hcell hd0 hd1 HV
              generalize vSr (0) (bl.drop (t + 1)) = V at HV ⊢
              rw [show (((t + 1 : Nat) : Int) - 1) = (t : Int) from by omega]
              go_wp2
              go_round
              case rel => exact ⟨t, by omega, by go_num, by rw [HV.out]⟩
              case measure => simp [intOf]
  · have HH := Lib.hid hh
    clear hh
    go_enter Try.func22, Try.ntmps22
    go_wp2_with (go_at_call 27; refine HD2.out.mono ?_; rintro e w1 ⟨g, cp, rfl, o1, hb1⟩)
    have HO := Lib.hid o1
    clear o1 HD2
    go_loopw [12] (fun i wr => ∃ t m : Nat, b1 + 1 ≤ t ∧ i = .int .i64 (t : Int) ∧ wr = w1.drewN m ∧ UpS (b1 + 1) bl t) (fun i _ => 70 - (intOf i).toNat)
    case atStart => exact ⟨b1 + 1, 0, Nat.le_refl _, by go_num, rfl, fun t h1 h2 => by omega⟩
    case round =>
      obtain ⟨t, m, ht, rfl, rfl, hup⟩ := hrel
      have HU := Lib.hid hup
      clear hup
      by_cases hlt : t < bl.length
      · have hcell := HO.out.cell t hlt
        have hcell2 := HO.out.cell b1 (by omega)
        have hi1 : (t : Int) < (bl.length : Int) := by omega
        have hi2 : (b1 : Int) < (bl.length : Int) := by omega
        by_cases he : bl.getD t 0 = bl.getD b1 0
        · rw [he] at hcell
          have HN : Hid (UpS (b1 + 1) bl (t + 1)) := fun u h1 h2 => by
            rcases Nat.lt_or_ge u t with h | h
            · exact HU.out u h1 h
            · obtain rfl : u = t := by omega
              exact he
          clear he
          generalize bl.getD b1 0 = x at hcell hcell2
          go_wp2
          go_quiet (fail)
          go_wp2
          go_roundw
          case rel => exact ⟨t + 1, _, by omega, by go_num, rfl, HN.out⟩
          case measure => simp [intOf]; omega
        · generalize bl.getD t 0 = y at hcell he
          generalize bl.getD b1 0 = x at hcell2 he
          have hne : (y != x) = true := by simpa using he
          clear he
          go_wp2
          go_quiet (fail)
          go_wp2
          go_ret3
          exact ⟨rfl, below_drewN' (below_drewN' hb1 _) _⟩
      · exact absurd (fun u h1 h2 => HU.out u h1 (by omega)) HH.out
end Go.Proofs.Ytognfgiekffmhaa.Leb
