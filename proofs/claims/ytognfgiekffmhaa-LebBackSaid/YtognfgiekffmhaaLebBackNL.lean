/- LebBack walked: a number that is laid is read as it was, by its width and any greater one; by a lesser one it is not; a byte less is too short. -/
import Derived.Test.YtognfgiekffmhaaLebBackParts
namespace Go.Proofs.Ytognfgiekffmhaa.Leb
open Go.RowKit

set_option maxHeartbeats 8000000 in
set_option maxRecDepth 100000 in
theorem back_NL (A : Option Addr) (c v K : Nat) (s n : Int) (l : List Int) (w : World) (hA : Byt w w.heap.size A l) (hl : l.length ≤ 100) (hby : ∀ x ∈ l, 0 ≤ x ∧ x ≤ 255) (hv : v < 18446744073709551616) (h1 : -9223372036854775808 ≤ s) (h2 : s ≤ 9223372036854775807) (hK : (K : Int) = 1 + n % 64) (hlt : K < 64) (hf : ¬ v < 2 ^ K) (hg1 : s < -2 ^ (K - 1)) :
    Calls Try.prog 5 #[.int .u64 (v : Int), .int .i64 s, .int .i64 n, .slice A l.length c] w fun e w' => e = .returned (.bool true) ∧ Below w.heap.size w w' := by
  have hnn := i64_and63 n
  have lu := lenU_ten hv
  have ls := lenS_ten h1 h2
  have lu1 := lenU_pos v
  have ls1 := lenS_pos s
  have Heu := Lib.hid (uB_len v)
  have Hes := Lib.hid (sB_len s)
  have HU := Lib.hid (fun W => U_nil v W hv)
  have HS := Lib.hid (fun W => S_nil s W h1 h2)
  have HLU := Lib.hid (fun W => LenU_any v W hv)
  have HLS := Lib.hid (fun W => LenS_any s W h1 h2)
  have HA := Lib.hid hA
  have HRU := Lib.hid (fun (W : World) (B : Nat) (x : Value) (h : Own W B x (uB v ++ l)) => backU_no W B K v x l h (by omega) hby lu (by omega) (by omega) hf)
  have HRS := Lib.hid (fun (W : World) (B : Nat) (x : Value) (h : Own W B x (sB s ++ l)) => backS_no W B K s x l h (by omega) hby ls (by omega) (by omega) (by omega))
  rw [hK] at HRU HRS
  have k64 : ((1 + n % 64 : Int) == 64) = false := by simp; omega
  have tu : ¬ (v : Int) < IntKind.u64.wrap (2 ^ (1 + n % 64).toNat) := by rw [pow2_u n K hK hlt]; omega
  have ts : ¬ wrap64 (-2 ^ ((1 + n % 64).toNat - 1)) ≤ s := by rw [(pow2_s n K hK hlt).2]; omega
  clear hA hby hv h1 h2 hK hf hg1 hlt
  go_enter Try.func5, Try.ntmps5
  go_wp2_with (go_at_call 10; refine (awake_any _).mono ?_; rintro e w1 ⟨rfl, hb1⟩)
  refine (HU.out _).mono ?_
  rintro e w2 ⟨va, rfl, oa, hb2⟩
  have b2 := hb1.trans (hb2.mono hb1.size)
  go_wp2_with fail
  refine (HS.out _).mono ?_
  rintro e w3 ⟨vb', rfl, ob, hb3⟩
  have b3 := b2.trans (hb3.mono b2.size)
  have oa3 := oa.keep hb3
  obtain ⟨ga, ca, rfl⟩ := oa3.1
  obtain ⟨gb, cb, rfl⟩ := ob.1
  have ya := oa3.byt
  have yb := ob.byt
  have YA := Lib.hid (ya.keep ((Below.refl _ _).alloc (Nat.le_refl _) (.cells #[] 5)))
  have hsz3 := b3.size
  have hl1 : (uB v).length ≤ 10 := by rw [Heu.out]; omega
  have hl2 : (sB s).length ≤ 10 := by rw [Hes.out]; omega
  clear hb1 b2 hb2 ya HU HS oa hb3
  go_wp2_with (first | (at_builtin; refine wp_bytes _ rfl (.tmp 40) (.tmp 41) rfl w3.heap.size w3.heap.size _ [] (uB v) rfl (own_none w3) _ ca rfl YA.out (by simp; omega) (by simp) ?_; intro v4 w4 o4 hb4) | (at_builtin; refine wp_bytes w4 rfl (.tmp 42) (.tmp 43) rfl w3.heap.size w.heap.size v4 ([] ++ uB v) l rfl o4 A c rfl ?hA4 ?hl4 ?hb4 ?_))
  case hA4 => exact HA.out.keep (b3.trans (((Below.refl _ _).alloc (Nat.le_refl _) _).trans hb4 |>.mono hsz3))
  case hl4 => simp; omega
  case hb4 => have := hb4.size; simp at this; omega
  intro v5 w5 o5 hb5
  have b5 : Below w3.heap.size w3 w5 := (((Below.refl _ _).alloc (Nat.le_refl _) _).trans hb4).trans hb5
  clear hb4 hb5 o4 YA
  go_wp2_with fail
  refine (HRU.out _ _ _ o5).mono ?_
  rintro e w6 ⟨rfl, hb6⟩
  have b6 := b5.trans (hb6.mono b5.size)
  have oa6 := oa3.keep b6
  have ob6 := ob.keep b6
  have c6 := b3.trans (b6.mono hsz3)
  have hsz6 := c6.size
  clear b5 hb6 o5 HRU oa3 ob b3 b6 yb
  have YB := Lib.hid (ob6.byt.keep ((Below.refl _ _).alloc (Nat.le_refl _) (.cells #[] 5)))
  go_wp2_with (first | (at_builtin; refine wp_bytes _ rfl (.tmp 51) (.tmp 52) rfl w6.heap.size w6.heap.size _ [] (sB s) rfl (own_none w6) _ cb rfl YB.out (by simp; omega) (by simp) ?_; intro v7 w7 o7 hb7) | (at_builtin; refine wp_bytes w7 rfl (.tmp 53) (.tmp 54) rfl w6.heap.size w.heap.size v7 ([] ++ sB s) l rfl o7 A c rfl ?hA7 ?hl7 ?hb7 ?_))
  case hA7 => exact HA.out.keep (c6.trans (((Below.refl _ _).alloc (Nat.le_refl _) _).trans hb7 |>.mono hsz6))
  case hl7 => simp; omega
  case hb7 => have := hb7.size; simp at this; omega
  intro v8 w8 o8 hb8
  have b8 : Below w6.heap.size w6 w8 := (((Below.refl _ _).alloc (Nat.le_refl _) _).trans hb7).trans hb8
  clear hb7 hb8 o7 YB
  go_wp2_with fail
  refine (HRS.out _ _ _ o8).mono ?_
  rintro e w9 ⟨rfl, hb9⟩
  have b9 := b8.trans (hb9.mono b8.size)
  have oa9 := oa6.keep b9
  have ob9 := ob6.keep b9
  have c9 := c6.trans (b9.mono hsz6)
  clear b8 hb9 o8 HRS oa6 ob6 c6 b9 HA
  have e1 := Heu.out
  have ra := oa9.room
  have rb := ob9.room
  rw [e1] at ra
  rw [Hes.out] at rb
  have e2 := Hes.out
  go_wp2_with fail
  all_goals
    refine (shortU _ _ _ _ _ _ _ oa9 (by omega) lu).mono ?_
    rintro e w10 ⟨rfl, hb10⟩
    have c10 := c9.trans (hb10.mono c9.size)
    have ob10 := ob9.keep hb10
    clear oa9 ob9 hb10 c9
    go_wp2_with fail
    all_goals
      refine (shortS _ _ _ _ _ _ _ ob10 (by omega) ls).mono ?_
      rintro e w11 ⟨rfl, hb11⟩
      have c11 := c10.trans (hb11.mono c10.size)
      clear ob10 hb11 c10
      go_wp2_with (first | (go_at_call 15; refine (HLU.out _).mono ?_; rintro e w' ⟨rfl, rfl⟩) | (go_at_call 17; refine (HLS.out _).mono ?_; rintro e w' ⟨rfl, rfl⟩))
      go_ret
      exact ⟨rfl, c11⟩

end Go.Proofs.Ytognfgiekffmhaa.Leb
