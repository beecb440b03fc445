/- LebWidths walked: a number of a width is read by each greater one as the same; of bytes that are none by a width nothing is told. -/
import Derived.Test.YtognfgiekffmhaaLebBackMath
import Derived.Test.YtognfgiekffmhaaLebAwake
import Derived.Test.YtognfgiekffmhaaLebCame
namespace Go.Proofs.Ytognfgiekffmhaa.Leb
open Go.RowKit

theorem wider_U {k k' : Nat} (hk : k ≤ k') (_h64 : k' ≤ 64) (l : List Int) (hl : ∀ x ∈ l, 0 ≤ x ∧ x ≤ 255) (h1 : 1 ≤ k) {v m : Nat} (h : rdl fitU k l 0 0 = .ok v m) : rdl fitU k' l 0 0 = .ok v m := by
  refine rdl_wider hk (fun c lo h0 h1 h2 h3 h4 h5 => ?_) l 0 0 v m (fun x hx => (hl x hx).1) (by omega) h
  obtain ⟨n, rfl⟩ := Int.eq_ofNat_of_zero_le h0
  have := (fitU_iff n _).1 h5
  exact (fitU_iff n _).2 (Nat.lt_of_lt_of_le this (Nat.pow_le_pow_right (by omega) (by omega)))

theorem wider_S {k k' : Nat} (hk : k ≤ k') (_h64 : k' ≤ 64) (l : List Int) (hl : ∀ x ∈ l, 0 ≤ x ∧ x ≤ 255) (h1 : 1 ≤ k) {v m : Nat} (h : rdl fitS k l 0 0 = .ok v m) : rdl fitS k' l 0 0 = .ok v m := by
  refine rdl_wider hk (fun c lo h0 h1 h2 h3 h4 h5 => ?_) l 0 0 v m (fun x hx => (hl x hx).1) (by omega) h
  have hp : (2 : Int) ^ (k - lo - 1) ≤ 2 ^ (k' - lo - 1) := by
    have h : (2 : Nat) ^ (k - lo - 1) ≤ 2 ^ (k' - lo - 1) := Nat.pow_le_pow_right (by omega) (by omega)
    have e : ∀ d : Nat, ((2 : Int) ^ d) = ((2 ^ d : Nat) : Int) := fun d => by simp
    rw [e, e]
    omega
  simp only [fitS, Bool.or_eq_true, decide_eq_true_eq] at h5 ⊢
  omega

/-- The two outcomes that widths may have: the same, or nothing by the lesser. -/
def Twice (v1 p1 e1 v2 p2 e2 : Int) : Prop := (e1 = 0 ∧ v2 = v1 ∧ p2 = p1 ∧ e2 = 0) ∨ ((e1 == 0) = false ∧ v1 = 0 ∧ p1 = 0)
theorem twice_U {k k' : Nat} (hk : k ≤ k') (h64 : k' ≤ 64) (l : List Int) (hl : ∀ x ∈ l, 0 ≤ x ∧ x ≤ 255) (h1 : 1 ≤ k) :
    Twice (uV (rdl fitU k l 0 0)) (uP 0 (rdl fitU k l 0 0)) (uE (rdl fitU k l 0 0)) (uV (rdl fitU k' l 0 0)) (uP 0 (rdl fitU k' l 0 0)) (uE (rdl fitU k' l 0 0)) := by
  rcases h : rdl fitU k l 0 0 with _ | _ | ⟨v, m⟩
  · exact .inr ⟨rfl, rfl, rfl⟩
  · exact .inr ⟨rfl, rfl, rfl⟩
  · rw [wider_U hk h64 l hl h1 h]
    exact .inl ⟨rfl, rfl, rfl, rfl⟩
theorem twice_S {k k' : Nat} (hk : k ≤ k') (h64 : k' ≤ 64) (l : List Int) (hl : ∀ x ∈ l, 0 ≤ x ∧ x ≤ 255) (h1 : 1 ≤ k) :
    Twice (sV (rdl fitS k l 0 0)) (uP 0 (rdl fitS k l 0 0)) (uE (rdl fitS k l 0 0)) (sV (rdl fitS k' l 0 0)) (uP 0 (rdl fitS k' l 0 0)) (uE (rdl fitS k' l 0 0)) := by
  rcases h : rdl fitS k l 0 0 with _ | _ | ⟨v, m⟩
  · exact .inr ⟨rfl, rfl, rfl⟩
  · exact .inr ⟨rfl, rfl, rfl⟩
  · rw [wider_S hk h64 l hl h1 h]
    exact .inl ⟨rfl, rfl, rfl, rfl⟩

set_option maxHeartbeats 4000000 in
set_option maxRecDepth 100000 in
theorem widths_lt (A : Option Addr) (c x y : Nat) (m n : Int) (l : List Int) (w : World) (hA : Byt w w.heap.size A l) (hl : l.length ≤ 100) (hby : ∀ x ∈ l, 0 ≤ x ∧ x ≤ 255) (hx : (x : Int) = 1 + m % 64) (hy : (y : Int) = 1 + n % 64) (hlt : x < y) :
    Calls Try.prog 9 #[.slice A l.length c, .int .i64 m, .int .i64 n] w fun e w' => e = .returned (.bool true) ∧ Below w.heap.size w w' := by
  have hmm := i64_and63 m
  have hnn := i64_and63 n
  have T1 := twice_U (k := x) (k' := y) (by omega) (by omega) l hby (by omega)
  have T2 := twice_S (k := x) (k' := y) (by omega) (by omega) l hby (by omega)
  have HU1 := Lib.hid (fun (W : World) (hb : Below w.heap.size w W) => ReadU_is A c x 0 l W ((hA.keep hb).mono hb.size) (by omega) hby (by omega) (by omega) (by omega))
  have HU2 := Lib.hid (fun (W : World) (hb : Below w.heap.size w W) => ReadU_is A c y 0 l W ((hA.keep hb).mono hb.size) (by omega) hby (by omega) (by omega) (by omega))
  have HS1 := Lib.hid (fun (W : World) (hb : Below w.heap.size w W) => ReadS_is A c x 0 l W ((hA.keep hb).mono hb.size) (by omega) hby (by omega) (by omega) (by omega))
  have HS2 := Lib.hid (fun (W : World) (hb : Below w.heap.size w W) => ReadS_is A c y 0 l W ((hA.keep hb).mono hb.size) (by omega) hby (by omega) (by omega) (by omega))
  simp only [List.drop_zero] at HU1 HU2 HS1 HS2
  have ho : 1 + m % 64 < 1 + n % 64 := by omega
  rw [hx] at HU1 HS1
  rw [hy] at HU2 HS2
  clear hA hby
  generalize rdl fitU x l 0 0 = r1 at T1 HU1
  generalize rdl fitU y l 0 0 = r2 at T1 HU2
  generalize rdl fitS x l 0 0 = r3 at T2 HS1
  generalize rdl fitS y l 0 0 = r4 at T2 HS2
  generalize uV r1 = v1 at T1 HU1
  generalize uP 0 r1 = p1 at T1 HU1
  generalize uE r1 = e1 at T1 HU1
  generalize uV r2 = v2 at T1 HU2
  generalize uP 0 r2 = p2 at T1 HU2
  generalize uE r2 = e2 at T1 HU2
  generalize sV r3 = v3 at T2 HS1
  generalize uP 0 r3 = p3 at T2 HS1
  generalize uE r3 = e3 at T2 HS1
  generalize sV r4 = v4 at T2 HS2
  generalize uP 0 r4 = p4 at T2 HS2
  generalize uE r4 = e4 at T2 HS2
  clear hx hy hlt
  rcases T1 with ⟨rfl, rfl, rfl, rfl⟩ | ⟨he1, rfl, rfl⟩ <;> rcases T2 with ⟨rfl, rfl, rfl, rfl⟩ | ⟨he3, rfl, rfl⟩
  · go_enter Try.func9, Try.ntmps9
    go_wp2_with (go_at_call 10; refine (awake_any _).mono ?_; rintro e w1 ⟨rfl, hb1⟩)
    refine (HU1.out _ hb1).mono ?_
    rintro e w2 ⟨rfl, hb2⟩
    have b2 := hb1.trans (hb2.mono hb1.size)
    clear hb1 hb2
    go_wp2_with fail
    refine (HU2.out _ b2).mono ?_
    rintro e w3 ⟨rfl, hb3⟩
    have b3 := b2.trans (hb3.mono b2.size)
    clear b2 hb3
    go_wp2_with fail
    refine (HS1.out _ b3).mono ?_
    rintro e w4 ⟨rfl, hb4⟩
    have b4 := b3.trans (hb4.mono b3.size)
    clear b3 hb4
    go_wp2_with fail
    refine (HS2.out _ b4).mono ?_
    rintro e w5 ⟨rfl, hb5⟩
    have b5 := b4.trans (hb5.mono b4.size)
    clear b4 hb5 HU1 HU2 HS1 HS2 hmm hnn
    go_wp2_with fail
    go_ret
    exact ⟨rfl, b5⟩
  · go_enter Try.func9, Try.ntmps9
    go_wp2_with (go_at_call 10; refine (awake_any _).mono ?_; rintro e w1 ⟨rfl, hb1⟩)
    refine (HU1.out _ hb1).mono ?_
    rintro e w2 ⟨rfl, hb2⟩
    have b2 := hb1.trans (hb2.mono hb1.size)
    clear hb1 hb2
    go_wp2_with fail
    refine (HU2.out _ b2).mono ?_
    rintro e w3 ⟨rfl, hb3⟩
    have b3 := b2.trans (hb3.mono b2.size)
    clear b2 hb3
    go_wp2_with fail
    refine (HS1.out _ b3).mono ?_
    rintro e w4 ⟨rfl, hb4⟩
    have b4 := b3.trans (hb4.mono b3.size)
    clear b3 hb4
    go_wp2_with fail
    refine (HS2.out _ b4).mono ?_
    rintro e w5 ⟨rfl, hb5⟩
    have b5 := b4.trans (hb5.mono b4.size)
    clear b4 hb5 HU1 HU2 HS1 HS2 hmm hnn
    go_wp2_with fail
    go_ret
    exact ⟨rfl, b5⟩
  · go_enter Try.func9, Try.ntmps9
    go_wp2_with (go_at_call 10; refine (awake_any _).mono ?_; rintro e w1 ⟨rfl, hb1⟩)
    refine (HU1.out _ hb1).mono ?_
    rintro e w2 ⟨rfl, hb2⟩
    have b2 := hb1.trans (hb2.mono hb1.size)
    clear hb1 hb2
    go_wp2_with fail
    refine (HU2.out _ b2).mono ?_
    rintro e w3 ⟨rfl, hb3⟩
    have b3 := b2.trans (hb3.mono b2.size)
    clear b2 hb3
    go_wp2_with fail
    refine (HS1.out _ b3).mono ?_
    rintro e w4 ⟨rfl, hb4⟩
    have b4 := b3.trans (hb4.mono b3.size)
    clear b3 hb4
    go_wp2_with fail
    refine (HS2.out _ b4).mono ?_
    rintro e w5 ⟨rfl, hb5⟩
    have b5 := b4.trans (hb5.mono b4.size)
    clear b4 hb5 HU1 HU2 HS1 HS2 hmm hnn
    go_wp2_with fail
    go_ret
    exact ⟨rfl, b5⟩
  · go_enter Try.func9, Try.ntmps9
    go_wp2_with (go_at_call 10; refine (awake_any _).mono ?_; rintro e w1 ⟨rfl, hb1⟩)
    refine (HU1.out _ hb1).mono ?_
    rintro e w2 ⟨rfl, hb2⟩
    have b2 := hb1.trans (hb2.mono hb1.size)
    clear hb1 hb2
    go_wp2_with fail
    refine (HU2.out _ b2).mono ?_
    rintro e w3 ⟨rfl, hb3⟩
    have b3 := b2.trans (hb3.mono b2.size)
    clear b2 hb3
    go_wp2_with fail
    refine (HS1.out _ b3).mono ?_
    rintro e w4 ⟨rfl, hb4⟩
    have b4 := b3.trans (hb4.mono b3.size)
    clear b3 hb4
    go_wp2_with fail
    refine (HS2.out _ b4).mono ?_
    rintro e w5 ⟨rfl, hb5⟩
    have b5 := b4.trans (hb5.mono b4.size)
    clear b4 hb5 HU1 HU2 HS1 HS2 hmm hnn
    go_wp2_with fail
    go_ret
    exact ⟨rfl, b5⟩

set_option maxHeartbeats 4000000 in
set_option maxRecDepth 100000 in
theorem widths_gt (A : Option Addr) (c x y : Nat) (m n : Int) (l : List Int) (w : World) (hA : Byt w w.heap.size A l) (hl : l.length ≤ 100) (hby : ∀ x ∈ l, 0 ≤ x ∧ x ≤ 255) (hx : (x : Int) = 1 + m % 64) (hy : (y : Int) = 1 + n % 64) (hlt : y < x) :
    Calls Try.prog 9 #[.slice A l.length c, .int .i64 m, .int .i64 n] w fun e w' => e = .returned (.bool true) ∧ Below w.heap.size w w' := by
  have hmm := i64_and63 m
  have hnn := i64_and63 n
  have T1 := twice_U (k := y) (k' := x) (by omega) (by omega) l hby (by omega)
  have T2 := twice_S (k := y) (k' := x) (by omega) (by omega) l hby (by omega)
  have HU1 := Lib.hid (fun (W : World) (hb : Below w.heap.size w W) => ReadU_is A c y 0 l W ((hA.keep hb).mono hb.size) (by omega) hby (by omega) (by omega) (by omega))
  have HU2 := Lib.hid (fun (W : World) (hb : Below w.heap.size w W) => ReadU_is A c x 0 l W ((hA.keep hb).mono hb.size) (by omega) hby (by omega) (by omega) (by omega))
  have HS1 := Lib.hid (fun (W : World) (hb : Below w.heap.size w W) => ReadS_is A c y 0 l W ((hA.keep hb).mono hb.size) (by omega) hby (by omega) (by omega) (by omega))
  have HS2 := Lib.hid (fun (W : World) (hb : Below w.heap.size w W) => ReadS_is A c x 0 l W ((hA.keep hb).mono hb.size) (by omega) hby (by omega) (by omega) (by omega))
  simp only [List.drop_zero] at HU1 HU2 HS1 HS2
  have ho : 1 + n % 64 < 1 + m % 64 := by omega
  rw [hy] at HU1 HS1
  rw [hx] at HU2 HS2
  clear hA hby
  generalize rdl fitU y l 0 0 = r1 at T1 HU1
  generalize rdl fitU x l 0 0 = r2 at T1 HU2
  generalize rdl fitS y l 0 0 = r3 at T2 HS1
  generalize rdl fitS x l 0 0 = r4 at T2 HS2
  generalize uV r1 = v1 at T1 HU1
  generalize uP 0 r1 = p1 at T1 HU1
  generalize uE r1 = e1 at T1 HU1
  generalize uV r2 = v2 at T1 HU2
  generalize uP 0 r2 = p2 at T1 HU2
  generalize uE r2 = e2 at T1 HU2
  generalize sV r3 = v3 at T2 HS1
  generalize uP 0 r3 = p3 at T2 HS1
  generalize uE r3 = e3 at T2 HS1
  generalize sV r4 = v4 at T2 HS2
  generalize uP 0 r4 = p4 at T2 HS2
  generalize uE r4 = e4 at T2 HS2
  clear hx hy hlt
  rcases T1 with ⟨rfl, rfl, rfl, rfl⟩ | ⟨he1, rfl, rfl⟩ <;> rcases T2 with ⟨rfl, rfl, rfl, rfl⟩ | ⟨he3, rfl, rfl⟩
  · go_enter Try.func9, Try.ntmps9
    go_wp2_with (go_at_call 10; refine (awake_any _).mono ?_; rintro e w1 ⟨rfl, hb1⟩)
    refine (HU1.out _ hb1).mono ?_
    rintro e w2 ⟨rfl, hb2⟩
    have b2 := hb1.trans (hb2.mono hb1.size)
    clear hb1 hb2
    go_wp2_with fail
    refine (HU2.out _ b2).mono ?_
    rintro e w3 ⟨rfl, hb3⟩
    have b3 := b2.trans (hb3.mono b2.size)
    clear b2 hb3
    go_wp2_with fail
    refine (HS1.out _ b3).mono ?_
    rintro e w4 ⟨rfl, hb4⟩
    have b4 := b3.trans (hb4.mono b3.size)
    clear b3 hb4
    go_wp2_with fail
    refine (HS2.out _ b4).mono ?_
    rintro e w5 ⟨rfl, hb5⟩
    have b5 := b4.trans (hb5.mono b4.size)
    clear b4 hb5 HU1 HU2 HS1 HS2 hmm hnn
    go_wp2_with fail
    go_ret
    exact ⟨rfl, b5⟩
  · go_enter Try.func9, Try.ntmps9
    go_wp2_with (go_at_call 10; refine (awake_any _).mono ?_; rintro e w1 ⟨rfl, hb1⟩)
    refine (HU1.out _ hb1).mono ?_
    rintro e w2 ⟨rfl, hb2⟩
    have b2 := hb1.trans (hb2.mono hb1.size)
    clear hb1 hb2
    go_wp2_with fail
    refine (HU2.out _ b2).mono ?_
    rintro e w3 ⟨rfl, hb3⟩
    have b3 := b2.trans (hb3.mono b2.size)
    clear b2 hb3
    go_wp2_with fail
    refine (HS1.out _ b3).mono ?_
    rintro e w4 ⟨rfl, hb4⟩
    have b4 := b3.trans (hb4.mono b3.size)
    clear b3 hb4
    go_wp2_with fail
    refine (HS2.out _ b4).mono ?_
    rintro e w5 ⟨rfl, hb5⟩
    have b5 := b4.trans (hb5.mono b4.size)
    clear b4 hb5 HU1 HU2 HS1 HS2 hmm hnn
    go_wp2_with fail
    go_ret
    exact ⟨rfl, b5⟩
  · go_enter Try.func9, Try.ntmps9
    go_wp2_with (go_at_call 10; refine (awake_any _).mono ?_; rintro e w1 ⟨rfl, hb1⟩)
    refine (HU1.out _ hb1).mono ?_
    rintro e w2 ⟨rfl, hb2⟩
    have b2 := hb1.trans (hb2.mono hb1.size)
    clear hb1 hb2
    go_wp2_with fail
    refine (HU2.out _ b2).mono ?_
    rintro e w3 ⟨rfl, hb3⟩
    have b3 := b2.trans (hb3.mono b2.size)
    clear b2 hb3
    go_wp2_with fail
    refine (HS1.out _ b3).mono ?_
    rintro e w4 ⟨rfl, hb4⟩
    have b4 := b3.trans (hb4.mono b3.size)
    clear b3 hb4
    go_wp2_with fail
    refine (HS2.out _ b4).mono ?_
    rintro e w5 ⟨rfl, hb5⟩
    have b5 := b4.trans (hb5.mono b4.size)
    clear b4 hb5 HU1 HU2 HS1 HS2 hmm hnn
    go_wp2_with fail
    go_ret
    exact ⟨rfl, b5⟩
  · go_enter Try.func9, Try.ntmps9
    go_wp2_with (go_at_call 10; refine (awake_any _).mono ?_; rintro e w1 ⟨rfl, hb1⟩)
    refine (HU1.out _ hb1).mono ?_
    rintro e w2 ⟨rfl, hb2⟩
    have b2 := hb1.trans (hb2.mono hb1.size)
    clear hb1 hb2
    go_wp2_with fail
    refine (HU2.out _ b2).mono ?_
    rintro e w3 ⟨rfl, hb3⟩
    have b3 := b2.trans (hb3.mono b2.size)
    clear b2 hb3
    go_wp2_with fail
    refine (HS1.out _ b3).mono ?_
    rintro e w4 ⟨rfl, hb4⟩
    have b4 := b3.trans (hb4.mono b3.size)
    clear b3 hb4
    go_wp2_with fail
    refine (HS2.out _ b4).mono ?_
    rintro e w5 ⟨rfl, hb5⟩
    have b5 := b4.trans (hb5.mono b4.size)
    clear b4 hb5 HU1 HU2 HS1 HS2 hmm hnn
    go_wp2_with fail
    go_ret
    exact ⟨rfl, b5⟩

set_option maxHeartbeats 4000000 in
set_option maxRecDepth 100000 in
theorem widths_eq (A : Option Addr) (c x : Nat) (m n : Int) (l : List Int) (w : World) (hA : Byt w w.heap.size A l) (hl : l.length ≤ 100) (hby : ∀ x ∈ l, 0 ≤ x ∧ x ≤ 255) (hx : (x : Int) = 1 + m % 64) (hy : (x : Int) = 1 + n % 64) :
    Calls Try.prog 9 #[.slice A l.length c, .int .i64 m, .int .i64 n] w fun e w' => e = .returned (.bool true) ∧ Below w.heap.size w w' := by
  have hmm := i64_and63 m
  have hnn := i64_and63 n
  have T1 := twice_U (k := x) (k' := x) (by omega) (by omega) l hby (by omega)
  have T2 := twice_S (k := x) (k' := x) (by omega) (by omega) l hby (by omega)
  have HU1 := Lib.hid (fun (W : World) (hb : Below w.heap.size w W) => ReadU_is A c x 0 l W ((hA.keep hb).mono hb.size) (by omega) hby (by omega) (by omega) (by omega))
  have HU2 := Lib.hid (fun (W : World) (hb : Below w.heap.size w W) => ReadU_is A c x 0 l W ((hA.keep hb).mono hb.size) (by omega) hby (by omega) (by omega) (by omega))
  have HS1 := Lib.hid (fun (W : World) (hb : Below w.heap.size w W) => ReadS_is A c x 0 l W ((hA.keep hb).mono hb.size) (by omega) hby (by omega) (by omega) (by omega))
  have HS2 := Lib.hid (fun (W : World) (hb : Below w.heap.size w W) => ReadS_is A c x 0 l W ((hA.keep hb).mono hb.size) (by omega) hby (by omega) (by omega) (by omega))
  simp only [List.drop_zero] at HU1 HU2 HS1 HS2
  have ho : 1 + m % 64 ≤ 1 + n % 64 := by omega
  have ho2 : 1 + n % 64 ≤ 1 + m % 64 := by omega
  rw [hx] at HU1 HS1
  rw [hx] at HU2 HS2
  clear hA hby
  generalize rdl fitU x l 0 0 = r1 at T1 HU1 HU2
  generalize rdl fitS x l 0 0 = r3 at T2 HS1 HS2
  generalize uV r1 = v1 at T1 HU1 HU2
  generalize uP 0 r1 = p1 at T1 HU1 HU2
  generalize uE r1 = e1 at T1 HU1 HU2
  generalize sV r3 = v3 at T2 HS1 HS2
  generalize uP 0 r3 = p3 at T2 HS1 HS2
  generalize uE r3 = e3 at T2 HS1 HS2
  clear hx hy
  rcases T1 with ⟨rfl, _, _, _⟩ | ⟨he1, rfl, rfl⟩ <;> rcases T2 with ⟨rfl, _, _, _⟩ | ⟨he3, rfl, rfl⟩
  · go_enter Try.func9, Try.ntmps9
    go_wp2_with (go_at_call 10; refine (awake_any _).mono ?_; rintro e w1 ⟨rfl, hb1⟩)
    refine (HU1.out _ hb1).mono ?_
    rintro e w2 ⟨rfl, hb2⟩
    have b2 := hb1.trans (hb2.mono hb1.size)
    clear hb1 hb2
    go_wp2_with fail
    refine (HU2.out _ b2).mono ?_
    rintro e w3 ⟨rfl, hb3⟩
    have b3 := b2.trans (hb3.mono b2.size)
    clear b2 hb3
    go_wp2_with fail
    refine (HS1.out _ b3).mono ?_
    rintro e w4 ⟨rfl, hb4⟩
    have b4 := b3.trans (hb4.mono b3.size)
    clear b3 hb4
    go_wp2_with fail
    refine (HS2.out _ b4).mono ?_
    rintro e w5 ⟨rfl, hb5⟩
    have b5 := b4.trans (hb5.mono b4.size)
    clear b4 hb5 HU1 HU2 HS1 HS2 hmm hnn
    go_wp2_with fail
    go_ret
    exact ⟨rfl, b5⟩
  · go_enter Try.func9, Try.ntmps9
    go_wp2_with (go_at_call 10; refine (awake_any _).mono ?_; rintro e w1 ⟨rfl, hb1⟩)
    refine (HU1.out _ hb1).mono ?_
    rintro e w2 ⟨rfl, hb2⟩
    have b2 := hb1.trans (hb2.mono hb1.size)
    clear hb1 hb2
    go_wp2_with fail
    refine (HU2.out _ b2).mono ?_
    rintro e w3 ⟨rfl, hb3⟩
    have b3 := b2.trans (hb3.mono b2.size)
    clear b2 hb3
    go_wp2_with fail
    refine (HS1.out _ b3).mono ?_
    rintro e w4 ⟨rfl, hb4⟩
    have b4 := b3.trans (hb4.mono b3.size)
    clear b3 hb4
    go_wp2_with fail
    refine (HS2.out _ b4).mono ?_
    rintro e w5 ⟨rfl, hb5⟩
    have b5 := b4.trans (hb5.mono b4.size)
    clear b4 hb5 HU1 HU2 HS1 HS2 hmm hnn
    go_wp2_with fail
    go_ret
    exact ⟨rfl, b5⟩
  · go_enter Try.func9, Try.ntmps9
    go_wp2_with (go_at_call 10; refine (awake_any _).mono ?_; rintro e w1 ⟨rfl, hb1⟩)
    refine (HU1.out _ hb1).mono ?_
    rintro e w2 ⟨rfl, hb2⟩
    have b2 := hb1.trans (hb2.mono hb1.size)
    clear hb1 hb2
    go_wp2_with fail
    refine (HU2.out _ b2).mono ?_
    rintro e w3 ⟨rfl, hb3⟩
    have b3 := b2.trans (hb3.mono b2.size)
    clear b2 hb3
    go_wp2_with fail
    refine (HS1.out _ b3).mono ?_
    rintro e w4 ⟨rfl, hb4⟩
    have b4 := b3.trans (hb4.mono b3.size)
    clear b3 hb4
    go_wp2_with fail
    refine (HS2.out _ b4).mono ?_
    rintro e w5 ⟨rfl, hb5⟩
    have b5 := b4.trans (hb5.mono b4.size)
    clear b4 hb5 HU1 HU2 HS1 HS2 hmm hnn
    go_wp2_with fail
    go_ret
    exact ⟨rfl, b5⟩
  · go_enter Try.func9, Try.ntmps9
    go_wp2_with (go_at_call 10; refine (awake_any _).mono ?_; rintro e w1 ⟨rfl, hb1⟩)
    refine (HU1.out _ hb1).mono ?_
    rintro e w2 ⟨rfl, hb2⟩
    have b2 := hb1.trans (hb2.mono hb1.size)
    clear hb1 hb2
    go_wp2_with fail
    refine (HU2.out _ b2).mono ?_
    rintro e w3 ⟨rfl, hb3⟩
    have b3 := b2.trans (hb3.mono b2.size)
    clear b2 hb3
    go_wp2_with fail
    refine (HS1.out _ b3).mono ?_
    rintro e w4 ⟨rfl, hb4⟩
    have b4 := b3.trans (hb4.mono b3.size)
    clear b3 hb4
    go_wp2_with fail
    refine (HS2.out _ b4).mono ?_
    rintro e w5 ⟨rfl, hb5⟩
    have b5 := b4.trans (hb5.mono b4.size)
    clear b4 hb5 HU1 HU2 HS1 HS2 hmm hnn
    go_wp2_with fail
    go_ret
    exact ⟨rfl, b5⟩

set_option maxHeartbeats 400000 in
set_option maxRecDepth 100000 in
theorem widths_big (A : Option Addr) (n c : Nat) (x y : Int) (w : World) (hl : 100 < n) (hm : n ≤ 9223372036854775807) :
    Calls Try.prog 9 #[.slice A n c, .int .i64 x, .int .i64 y] w fun e w' => e = .returned (.bool true) ∧ Below w.heap.size w w' := by
  go_enter Try.func9, Try.ntmps9
  go_wp2_with (go_at_call 10; refine (awake_any _).mono ?_; rintro e w1 ⟨rfl, hb1⟩)
  go_ret
  exact ⟨rfl, hb1⟩

theorem widths_any (a : Option Addr) (len cap : Nat) (zs : List Int) (m n : Int) (w : World) (hr : Came .u8 w a len cap zs) :
    Calls Try.prog 9 #[.slice a len cap, .int .i64 m, .int .i64 n] w fun e w' => e = .returned (.bool true) ∧ Below w.heap.size w w' := by
  obtain ⟨hb, hl, hby, hm⟩ := hr.byt
  by_cases h : len ≤ 100
  · have hx : ((1 + m % 64).toNat : Int) = 1 + m % 64 := by omega
    have hy : ((1 + n % 64).toNat : Int) = 1 + n % 64 := by omega
    have key : Calls Try.prog 9 #[.slice a (zs.take len).length cap, .int .i64 m, .int .i64 n] w fun e w' => e = .returned (.bool true) ∧ Below w.heap.size w w' := by
      rcases Nat.lt_trichotomy (1 + m % 64).toNat (1 + n % 64).toNat with ho | ho | ho
      · exact widths_lt a cap _ _ m n (zs.take len) w hb (by omega) hby hx hy ho
      · exact widths_eq a cap _ m n (zs.take len) w hb (by omega) hby hx (by rw [ho]; exact hy)
      · exact widths_gt a cap _ _ m n (zs.take len) w hb (by omega) hby hx hy ho
    rw [hl] at key
    exact key
  · exact widths_big a len cap m n w (by omega) hm
end Go.Proofs.Ytognfgiekffmhaa.Leb
