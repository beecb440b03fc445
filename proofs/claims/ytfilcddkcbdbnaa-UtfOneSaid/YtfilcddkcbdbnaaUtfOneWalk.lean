/- UtfOne walked: each number that may be has one to four bytes of its own, as it is great; no others. -/
import Derived.Test.YtfilcddkcbdbnaaUtfCame
namespace Go.Proofs.Ytfilcddkcbdbnaa.Utf
open Go.RowKit
set_option maxRecDepth 100000
set_option maxHeartbeats 1000000

theorem one_flat (v : Int) : [v].flatMap enc = enc v := by simp
theorem one_hi (n v : Int) (hv : bits .and .i64 n 2097151 = v) (h0 : 0 ≤ v) (h1 : v ≤ 2097151) (h : 1114111 < v) (w : World) : Calls Try.prog 7 #[.int .i64 n] w fun e w' => e = .returned (.bool true) ∧ Below w.heap.size w w' := by
  have d1 : decide (1114111 < v) = true := by simp; omega
  have hn : ¬ okR v := by unfold okR; omega
  have HN := Lib.hid hn
  clear hn
  go_enter Try.func7, Try.ntmps7
  go_wp2_with fail
  refine (awake_any _).mono ?_
  rintro e w1 ⟨rfl, hb1⟩
  have HB1 := Lib.hid hb1
  clear hb1
  go_wp2_with fail
  refine (pfrom_any (.slice (some ⟨w1.heap.size, 0, none⟩) 1 1) [v] (w1.alloc (.cells #[.int .i64 v] 3)) (one_slI w1 v) (by simp)).mono ?_
  rintro e w2 ⟨(⟨hall, _⟩ | ⟨_, rfl⟩), hb2⟩
  · exact absurd (hall v (by simp)) HN.out
  · have HB2 := Lib.hid (HB1.out.trans (((Below.refl _ _).alloc (Nat.le_refl _) _ |>.trans (hb2.mono (by simp))).mono HB1.out.size))
    clear hb2
    go_wp2_with fail
    go_ret
    exact ⟨rfl, HB2.out⟩
theorem one_gap (n v : Int) (hv : bits .and .i64 n 2097151 = v) (h0 : 0 ≤ v) (h1 : v ≤ 2097151) (h : 55296 ≤ v) (h2 : v ≤ 57343) (w : World) : Calls Try.prog 7 #[.int .i64 n] w fun e w' => e = .returned (.bool true) ∧ Below w.heap.size w w' := by
  have d1 : decide (1114111 < v) = false := by simp; omega
  have d2 : decide (55296 ≤ v) = true := by simp; omega
  have d3 : decide (v ≤ 57343) = true := by simp; omega
  have hn : ¬ okR v := by unfold okR; omega
  have HN := Lib.hid hn
  clear hn
  go_enter Try.func7, Try.ntmps7
  go_wp2_with fail
  refine (awake_any _).mono ?_
  rintro e w1 ⟨rfl, hb1⟩
  have HB1 := Lib.hid hb1
  clear hb1
  go_wp2_with fail
  refine (pfrom_any (.slice (some ⟨w1.heap.size, 0, none⟩) 1 1) [v] (w1.alloc (.cells #[.int .i64 v] 3)) (one_slI w1 v) (by simp)).mono ?_
  rintro e w2 ⟨(⟨hall, _⟩ | ⟨_, rfl⟩), hb2⟩
  · exact absurd (hall v (by simp)) HN.out
  · have HB2 := Lib.hid (HB1.out.trans (((Below.refl _ _).alloc (Nat.le_refl _) _ |>.trans (hb2.mono (by simp))).mono HB1.out.size))
    clear hb2
    go_wp2_with fail
    go_ret
    exact ⟨rfl, HB2.out⟩
theorem one_1 (n v : Int) (hv : bits .and .i64 n 2097151 = v) (hok : okR v) (h : v < 128) (w : World) : Calls Try.prog 7 #[.int .i64 n] w fun e w' => e = .returned (.bool true) ∧ Below w.heap.size w w' := by
  have hen : (enc v).length = 1 := by rw [enc1 h]; rfl
  have hbyte := enc_byte hok
  have htx : Txt (enc v) [v] := ⟨fun x hx => by rw [show x = v from by simpa using hx]; exact hok, (one_flat v).symm⟩
  have d1 : decide (128 ≤ v) = false := by simp; omega
  have d2 : decide (2048 ≤ v) = false := by simp; omega
  have d3 : decide (65536 ≤ v) = false := by simp; omega
  have d4 : decide (v ≤ 1114111) = true := by have := hok.2.1; simp; omega
  have HOK := Lib.hid hok
  have HT := Lib.hid htx
  have HY := Lib.hid hbyte
  have HEN := Lib.hid hen
  clear hok htx hbyte hen
  go_enter Try.func7, Try.ntmps7
  go_wp2_with fail
  refine (awake_any _).mono ?_
  rintro e w1 ⟨rfl, hb1⟩
  have HB1 := Lib.hid hb1
  clear hb1
  go_wp2_with fail
  refine (pfrom_any (.slice (some ⟨w1.heap.size, 0, none⟩) 1 1) [v] (w1.alloc (.cells #[.int .i64 v] 3)) (one_slI w1 v) (by simp)).mono ?_
  rintro e w2 ⟨(⟨_, o, rfl, ho⟩ | ⟨⟨x, hx, hnx⟩, _⟩), hb2⟩
  · have HB2 := Lib.hid (HB1.out.trans (((Below.refl _ _).alloc (Nat.le_refl _) _ |>.trans (hb2.mono (by simp))).mono HB1.out.size))
    rw [one_flat] at ho
    obtain ⟨A, c, rfl, hsl⟩ := ho.row
    have HR := Lib.hid (prunes_any _ (enc v) w2 HY.out hsl (by rw [HEN.out]; omega))
    rw [HEN.out] at HR
    clear hb2 ho hsl
    rw [HEN.out]
    go_wp2_with fail
    refine HR.out.mono ?_
    rintro e w3 ⟨(⟨o3, x, ht, rfl, ho3⟩ | ⟨hn, _⟩), hb3⟩
    · obtain rfl := Txt.one ht HT.out
      have HB3 := Lib.hid (HB2.out.trans (hb3.mono HB2.out.size))
      have HS := Lib.hid ho3.sl
      have HI := Lib.hid (ints_any o3 (.slice (some ⟨w3.heap.size, 0, none⟩) 1 1) [v] [v] (w3.alloc (.cells #[.int .i64 v] 3)) (ho3.sl.keep ((Below.refl _ _).alloc (Nat.le_refl _) _)) (one_slI w3 v))
      rw [decide_eq_true (show [v] = [v] from rfl)] at HI
      clear ht hb3 ho3
      go_wp2_with fail
      refine HI.out.mono ?_
      rintro e w4 ⟨rfl, hst⟩
      have HB4 := Lib.hid (HB3.out.trans ((((Below.refl _ _).alloc (Nat.le_refl _) _).trans (hst.below.mono (by simp))).mono HB3.out.size))
      clear hst
      go_wp2_with fail
      go_ret
      exact ⟨rfl, HB4.out⟩
    · exact absurd HT.out (hn _)
  · rw [show x = v from by simpa using hx] at hnx
    exact absurd HOK.out hnx
theorem one_2 (n v : Int) (hv : bits .and .i64 n 2097151 = v) (hok : okR v) (h : 128 ≤ v) (h2 : v < 2048) (w : World) : Calls Try.prog 7 #[.int .i64 n] w fun e w' => e = .returned (.bool true) ∧ Below w.heap.size w w' := by
  have hen : (enc v).length = 2 := by rw [enc2 (by omega) (by omega)]; rfl
  have hbyte := enc_byte hok
  have htx : Txt (enc v) [v] := ⟨fun x hx => by rw [show x = v from by simpa using hx]; exact hok, (one_flat v).symm⟩
  have d1 : decide (128 ≤ v) = true := by simp; omega
  have d2 : decide (2048 ≤ v) = false := by simp; omega
  have d3 : decide (65536 ≤ v) = false := by simp; omega
  have d4 : decide (v ≤ 1114111) = true := by have := hok.2.1; simp; omega
  have HOK := Lib.hid hok
  have HT := Lib.hid htx
  have HY := Lib.hid hbyte
  have HEN := Lib.hid hen
  clear hok htx hbyte hen
  go_enter Try.func7, Try.ntmps7
  go_wp2_with fail
  refine (awake_any _).mono ?_
  rintro e w1 ⟨rfl, hb1⟩
  have HB1 := Lib.hid hb1
  clear hb1
  go_wp2_with fail
  refine (pfrom_any (.slice (some ⟨w1.heap.size, 0, none⟩) 1 1) [v] (w1.alloc (.cells #[.int .i64 v] 3)) (one_slI w1 v) (by simp)).mono ?_
  rintro e w2 ⟨(⟨_, o, rfl, ho⟩ | ⟨⟨x, hx, hnx⟩, _⟩), hb2⟩
  · have HB2 := Lib.hid (HB1.out.trans (((Below.refl _ _).alloc (Nat.le_refl _) _ |>.trans (hb2.mono (by simp))).mono HB1.out.size))
    rw [one_flat] at ho
    obtain ⟨A, c, rfl, hsl⟩ := ho.row
    have HR := Lib.hid (prunes_any _ (enc v) w2 HY.out hsl (by rw [HEN.out]; omega))
    rw [HEN.out] at HR
    clear hb2 ho hsl
    rw [HEN.out]
    go_wp2_with fail
    refine HR.out.mono ?_
    rintro e w3 ⟨(⟨o3, x, ht, rfl, ho3⟩ | ⟨hn, _⟩), hb3⟩
    · obtain rfl := Txt.one ht HT.out
      have HB3 := Lib.hid (HB2.out.trans (hb3.mono HB2.out.size))
      have HS := Lib.hid ho3.sl
      have HI := Lib.hid (ints_any o3 (.slice (some ⟨w3.heap.size, 0, none⟩) 1 1) [v] [v] (w3.alloc (.cells #[.int .i64 v] 3)) (ho3.sl.keep ((Below.refl _ _).alloc (Nat.le_refl _) _)) (one_slI w3 v))
      rw [decide_eq_true (show [v] = [v] from rfl)] at HI
      clear ht hb3 ho3
      go_wp2_with fail
      refine HI.out.mono ?_
      rintro e w4 ⟨rfl, hst⟩
      have HB4 := Lib.hid (HB3.out.trans ((((Below.refl _ _).alloc (Nat.le_refl _) _).trans (hst.below.mono (by simp))).mono HB3.out.size))
      clear hst
      go_wp2_with fail
      go_ret
      exact ⟨rfl, HB4.out⟩
    · exact absurd HT.out (hn _)
  · rw [show x = v from by simpa using hx] at hnx
    exact absurd HOK.out hnx
theorem one_3 (n v : Int) (hv : bits .and .i64 n 2097151 = v) (hok : okR v) (h : 2048 ≤ v) (h2 : v < 65536) (w : World) : Calls Try.prog 7 #[.int .i64 n] w fun e w' => e = .returned (.bool true) ∧ Below w.heap.size w w' := by
  have hen : (enc v).length = 3 := by rw [enc3 (by omega) (by omega)]; rfl
  have hbyte := enc_byte hok
  have htx : Txt (enc v) [v] := ⟨fun x hx => by rw [show x = v from by simpa using hx]; exact hok, (one_flat v).symm⟩
  have d1 : decide (128 ≤ v) = true := by simp; omega
  have d2 : decide (2048 ≤ v) = true := by simp; omega
  have d3 : decide (65536 ≤ v) = false := by simp; omega
  have d4 : decide (v ≤ 1114111) = true := by have := hok.2.1; simp; omega
  have HOK := Lib.hid hok
  have HT := Lib.hid htx
  have HY := Lib.hid hbyte
  have HEN := Lib.hid hen
  clear hok htx hbyte hen
  go_enter Try.func7, Try.ntmps7
  go_wp2_with fail
  refine (awake_any _).mono ?_
  rintro e w1 ⟨rfl, hb1⟩
  have HB1 := Lib.hid hb1
  clear hb1
  go_wp2_with fail
  refine (pfrom_any (.slice (some ⟨w1.heap.size, 0, none⟩) 1 1) [v] (w1.alloc (.cells #[.int .i64 v] 3)) (one_slI w1 v) (by simp)).mono ?_
  rintro e w2 ⟨(⟨_, o, rfl, ho⟩ | ⟨⟨x, hx, hnx⟩, _⟩), hb2⟩
  · have HB2 := Lib.hid (HB1.out.trans (((Below.refl _ _).alloc (Nat.le_refl _) _ |>.trans (hb2.mono (by simp))).mono HB1.out.size))
    rw [one_flat] at ho
    obtain ⟨A, c, rfl, hsl⟩ := ho.row
    have HR := Lib.hid (prunes_any _ (enc v) w2 HY.out hsl (by rw [HEN.out]; omega))
    rw [HEN.out] at HR
    clear hb2 ho hsl
    rw [HEN.out]
    go_wp2_with fail
    refine HR.out.mono ?_
    rintro e w3 ⟨(⟨o3, x, ht, rfl, ho3⟩ | ⟨hn, _⟩), hb3⟩
    · obtain rfl := Txt.one ht HT.out
      have HB3 := Lib.hid (HB2.out.trans (hb3.mono HB2.out.size))
      have HS := Lib.hid ho3.sl
      have HI := Lib.hid (ints_any o3 (.slice (some ⟨w3.heap.size, 0, none⟩) 1 1) [v] [v] (w3.alloc (.cells #[.int .i64 v] 3)) (ho3.sl.keep ((Below.refl _ _).alloc (Nat.le_refl _) _)) (one_slI w3 v))
      rw [decide_eq_true (show [v] = [v] from rfl)] at HI
      clear ht hb3 ho3
      go_wp2_with fail
      refine HI.out.mono ?_
      rintro e w4 ⟨rfl, hst⟩
      have HB4 := Lib.hid (HB3.out.trans ((((Below.refl _ _).alloc (Nat.le_refl _) _).trans (hst.below.mono (by simp))).mono HB3.out.size))
      clear hst
      go_wp2_with fail
      go_ret
      exact ⟨rfl, HB4.out⟩
    · exact absurd HT.out (hn _)
  · rw [show x = v from by simpa using hx] at hnx
    exact absurd HOK.out hnx
theorem one_4 (n v : Int) (hv : bits .and .i64 n 2097151 = v) (hok : okR v) (h : 65536 ≤ v) (w : World) : Calls Try.prog 7 #[.int .i64 n] w fun e w' => e = .returned (.bool true) ∧ Below w.heap.size w w' := by
  have hen : (enc v).length = 4 := by rw [enc4 h]; rfl
  have hbyte := enc_byte hok
  have htx : Txt (enc v) [v] := ⟨fun x hx => by rw [show x = v from by simpa using hx]; exact hok, (one_flat v).symm⟩
  have d1 : decide (128 ≤ v) = true := by simp; omega
  have d2 : decide (2048 ≤ v) = true := by simp; omega
  have d3 : decide (65536 ≤ v) = true := by simp; omega
  have d4 : decide (v ≤ 1114111) = true := by have := hok.2.1; simp; omega
  have HOK := Lib.hid hok
  have HT := Lib.hid htx
  have HY := Lib.hid hbyte
  have HEN := Lib.hid hen
  clear hok htx hbyte hen
  go_enter Try.func7, Try.ntmps7
  go_wp2_with fail
  refine (awake_any _).mono ?_
  rintro e w1 ⟨rfl, hb1⟩
  have HB1 := Lib.hid hb1
  clear hb1
  go_wp2_with fail
  refine (pfrom_any (.slice (some ⟨w1.heap.size, 0, none⟩) 1 1) [v] (w1.alloc (.cells #[.int .i64 v] 3)) (one_slI w1 v) (by simp)).mono ?_
  rintro e w2 ⟨(⟨_, o, rfl, ho⟩ | ⟨⟨x, hx, hnx⟩, _⟩), hb2⟩
  · have HB2 := Lib.hid (HB1.out.trans (((Below.refl _ _).alloc (Nat.le_refl _) _ |>.trans (hb2.mono (by simp))).mono HB1.out.size))
    rw [one_flat] at ho
    obtain ⟨A, c, rfl, hsl⟩ := ho.row
    have HR := Lib.hid (prunes_any _ (enc v) w2 HY.out hsl (by rw [HEN.out]; omega))
    rw [HEN.out] at HR
    clear hb2 ho hsl
    rw [HEN.out]
    go_wp2_with fail
    refine HR.out.mono ?_
    rintro e w3 ⟨(⟨o3, x, ht, rfl, ho3⟩ | ⟨hn, _⟩), hb3⟩
    · obtain rfl := Txt.one ht HT.out
      have HB3 := Lib.hid (HB2.out.trans (hb3.mono HB2.out.size))
      have HS := Lib.hid ho3.sl
      have HI := Lib.hid (ints_any o3 (.slice (some ⟨w3.heap.size, 0, none⟩) 1 1) [v] [v] (w3.alloc (.cells #[.int .i64 v] 3)) (ho3.sl.keep ((Below.refl _ _).alloc (Nat.le_refl _) _)) (one_slI w3 v))
      rw [decide_eq_true (show [v] = [v] from rfl)] at HI
      clear ht hb3 ho3
      go_wp2_with fail
      refine HI.out.mono ?_
      rintro e w4 ⟨rfl, hst⟩
      have HB4 := Lib.hid (HB3.out.trans ((((Below.refl _ _).alloc (Nat.le_refl _) _).trans (hst.below.mono (by simp))).mono HB3.out.size))
      clear hst
      go_wp2_with fail
      go_ret
      exact ⟨rfl, HB4.out⟩
    · exact absurd HT.out (hn _)
  · rw [show x = v from by simpa using hx] at hnx
    exact absurd HOK.out hnx
theorem one_any (n : Int) (w : World) : Calls Try.prog 7 #[.int .i64 n] w fun e w' => e = .returned (.bool true) ∧ Below w.heap.size w w' := by
  have hv := i64_and21 n
  have h0 : 0 ≤ n % 2097152 := by omega
  have h1 : n % 2097152 ≤ 2097151 := by omega
  generalize n % 2097152 = v at hv h0 h1
  by_cases hok : okR v
  · rcases enc_ways v with ⟨a, _⟩ | ⟨a, b, _⟩ | ⟨a, b, _⟩ | ⟨a, _⟩
    · exact one_1 n v hv hok a w
    · exact one_2 n v hv hok a b w
    · exact one_3 n v hv hok a b w
    · exact one_4 n v hv hok a w
  · by_cases h : 1114111 < v
    · exact one_hi n v hv h0 h1 h w
    · exact one_gap n v hv h0 h1 (by unfold okR at hok; omega) (by unfold okR at hok; omega) w
end Go.Proofs.Ytfilcddkcbdbnaa.Utf
