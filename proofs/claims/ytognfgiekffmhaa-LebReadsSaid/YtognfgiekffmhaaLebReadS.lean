/- The function that gathers a number's digits, walked for a number that may be below 0. -/
import Derived.Test.YtognfgiekffmhaaLebRead
namespace Go.Proofs.Ytognfgiekffmhaa.Leb
open Go.RowKit

set_option maxHeartbeats 2000000 in
set_option maxRecDepth 100000 in
theorem readS_any (A : Option Addr) (c bits at_ : Nat) (l : List Int) (w : World) (hA : Byt w w.heap.size A l) (hl : l.length ≤ 1000000) (hby : ∀ x ∈ l, 0 ≤ x ∧ x ≤ 255) (hb1 : 1 ≤ bits) (hb64 : bits ≤ 64) (hat : at_ ≤ l.length) :
    Calls Try.prog 25 #[.slice A l.length c, .int .i64 (at_ : Int), .int .i64 (bits : Int), .func (.func 28) #[] #[]] w (Told w at_ (rdl fitS bits (l.drop at_) 0 0)) := by
  have HA := Lib.hid hA
  have HB := Lib.hid hby
  have HS := Lib.hid (Loop.start fitS bits at_ l A c w hb1 hat)
  have d1 : decide ((bits : Int) < 1) = false := by simp; omega
  have d2 : decide (64 < (bits : Int)) = false := by simp; omega
  have d3 : decide ((at_ : Int) < 0) = false := by simp
  have d4 : decide (l.length < at_) = false := by simp; omega
  clear hA hby
  go_enter Try.func25, Try.ntmps25
  go_wp2_with (go_at_call 30; refine (taker_any _ _ _ _ _).mono ?_; rintro e w' ⟨rfl, rfl⟩)
  clear d1 d2 d3 d4
  go_loopw [13, 14] (fun d lo wr => ∃ k q acc : Nat, d = .int .u64 (acc : Int) ∧ lo = .int .i64 (q : Int) ∧ Loop fitS bits at_ l A c w k q acc wr) (fun _ lo _ => 64 - (intOf lo).toNat)
  case atStart => exact ⟨at_, 0, 0, rfl, rfl, HS.out⟩
  case round =>
    obtain ⟨k, lo, acc, rfl, rfl, hL⟩ := hrel
    have HL := Lib.hid hL
    have hlt := hL.lt
    have hle := hL.le
    have HC := Lib.hid (And.intro hL.cat (And.intro hL.fr hL.cb))
    clear hL HS
    by_cases hn : k = l.length
    · have HN := Lib.hid hn
      have hge : l.length ≤ k := by omega
      clear hn
      go_wp2_with (go_at_call 31; refine (next_no _ _ k _ _ _ _ HC.out.1 HC.out.2.2 hge).mono ?_; rintro e w' ⟨rfl, rfl⟩)
      refine bodyPost_ret (results4 rfl _ _ _) rfl ?_
      exact HL.out.ended (r := .short) (ls := []) (by rw [HN.out]; exact List.drop_length) rfl HL.out.bel
    · have hk : k < l.length := by omega
      clear hn hle
      obtain ⟨x, hx⟩ : ∃ x, l[k]? = some x := ⟨_, List.getElem?_eq_getElem hk⟩
      obtain ⟨hx0, hx1⟩ := HB.out x (List.mem_of_getElem? hx)
      obtain ⟨ad, hAe, had, hcell⟩ := HA.out (by omega)
      have hc1 := hcell k (.int .u8 x) (by simp [vb, hx])
      obtain ⟨ab, ao, asp⟩ := ad
      have hspot : asp = none := by
        have h0 := hcell 0 (.int .u8 (l[0]'(by omega))) (by simp [vb, show 0 < l.length by omega])
        simpa [Addr.add] using World.cell?_spot h0
      subst hspot
      have hplain : (⟨ab, ao, none⟩ : Addr).add k = ⟨ab, ao + k, none⟩ := by unfold Addr.add; split <;> simp_all
      rw [hplain] at hc1
      have hc2 : wr.cell? ⟨ab, ao + k, none⟩ = some (.int .u8 x) := (HL.out.bel.cell (p := ⟨ab, ao + k, none⟩) had).trans hc1
      rw [hAe] at HC
      have HY := Lib.hid (next_yes (w.heap.size + 1) w.heap.size ab ao k l.length c x wr HC.out.1 HC.out.2.1 HC.out.2.2 hk (by omega) hc2)
      have HX := Lib.hid hx
      have HO := Lib.hid (or_add acc lo x (by omega) HL.out.lim)
      clear hx hAe hcell hc1 hplain hc2 HC had
      by_cases h7 : bits ≤ lo + 7
      · by_cases hg : 128 ≤ x
        · go_wp2_with (go_at_call 31; refine HY.out.mono ?_; rintro e w' ⟨rfl, m, rfl⟩)
          refine bodyPost_ret (results4 rfl _ _ _) rfl ?_
          exact HL.out.ended (r := .form) (drop_at HX.out) (rdl_form h7 (.inl hg)) (HL.out.below _ _)
        · have hor := HO.out
          have HF := Lib.hid (fun W => fitS_any x (bits - lo) W hx0 (by omega) (by omega) (by omega))
          have ed : ((bits : Int) - (lo : Int)) = ((bits - lo : Nat) : Int) := by omega
          by_cases hf : fitS x (bits - lo) = true
          · go_wp2_with (first | (go_at_call 31; refine HY.out.mono ?_; rintro e w' ⟨rfl, m, rfl⟩) | (go_at_call 28; refine (HF.out _).mono ?_; rintro e w' ⟨rfl, rfl⟩))
            refine bodyPost_ret (results4 rfl _ _ _) rfl ?_
            have fin := HL.out.ended (drop_at HX.out) (rdl_ok (fun _ => hf) (by omega)) (HL.out.below (.int .i64 ((k : Int) + 1)) m)
            rw [told_ok at_ k lo _ HL.out.low] at fin
            exact fin
          · have hf2 : fitS x (bits - lo) = false := by simpa using hf
            clear hf
            go_wp2_with (first | (go_at_call 31; refine HY.out.mono ?_; rintro e w' ⟨rfl, m, rfl⟩) | (go_at_call 28; refine (HF.out _).mono ?_; rintro e w' ⟨rfl, rfl⟩))
            refine bodyPost_ret (results4 rfl _ _ _) rfl ?_
            exact HL.out.ended (r := .form) (drop_at HX.out) (rdl_form h7 (.inr hf2)) (HL.out.below _ _)
      · have hor := HO.out
        by_cases hg : 128 ≤ x
        · go_wp2_with (go_at_call 31; refine HY.out.mono ?_; rintro e w' ⟨rfl, m, rfl⟩)
          go_roundw
          case rel => exact ⟨k + 1, lo + 7, _, rfl, by go_num, HL.out.next HX.out hg (by omega) hb64 m⟩
          case measure => simp [intOf]; omega
        · go_wp2_with (go_at_call 31; refine HY.out.mono ?_; rintro e w' ⟨rfl, m, rfl⟩)
          refine bodyPost_ret (results4 rfl _ _ _) rfl ?_
          have fin := HL.out.ended (drop_at HX.out) (rdl_ok (fun h => absurd h h7) (by omega)) (HL.out.below (.int .i64 ((k : Int) + 1)) m)
          rw [told_ok at_ k lo _ HL.out.low] at fin
          exact fin
end Go.Proofs.Ytognfgiekffmhaa.Leb
