/- LebReads walked: what is read of any bytes, from any place, of any width, is what the document says. -/
import Derived.Test.YtognfgiekffmhaaLebReadsMath
namespace Go.Proofs.Ytognfgiekffmhaa.Leb
open Go.RowKit

theorem refReadU_is (A : Option Addr) (c bits at_ : Nat) (l : List Int) (w : World) (hA : Byt w w.heap.size A l) (hl : l.length ≤ 1000000) (hby : ∀ x ∈ l, 0 ≤ x ∧ x ≤ 255) (hb1 : 1 ≤ bits) (hb64 : bits ≤ 64) (hat : at_ ≤ l.length) :
    Calls Try.prog 20 #[.slice A l.length c, .int .i64 (at_ : Int), .int .i64 (bits : Int)] w (RTold w (uV (rdl fitU bits (l.drop at_) 0 0)) (uP at_ (rdl fitU bits (l.drop at_) 0 0)) (uE (rdl fitU bits (l.drop at_) 0 0)) .u64) := by
  have hd := digits_ok A c bits at_ l w hA hl hby hb1 hb64 hat
  have hs := same_U hb1 hb64 (l.drop at_) fun x hx => hby x (List.mem_of_mem_drop hx)
  cases hq : dgl ((bits + 6) / 7) (l.drop at_) 1 [] with
  | short =>
    rw [hq] at hd hs
    have hs : rdl fitU bits (l.drop at_) 0 0 = .short := hs
    rw [hs]
    exact refReadU_err A _ c _ _ 2 w (by decide) hd
  | form =>
    rw [hq] at hd hs
    have hs : rdl fitU bits (l.drop at_) 0 0 = .form := hs
    rw [hs]
    exact refReadU_err A _ c _ _ 3 w (by decide) hd
  | ok bl =>
    have hok := refReadU_ok A c bits at_ l bl w hA hl hby hb1 hb64 hat hq
    rw [hq] at hs
    by_cases hh : hiU bits bl
    · rw [hs.1 hh]
      simp only [uV, uP, uE]
      rw [show (((vU bl).toNat : Nat) : Int) = vU bl from by have := vU_bounds bl; omega]
      exact hok.1 hh
    · rw [hs.2 hh]
      exact hok.2 hh

theorem refReadS_is (A : Option Addr) (c bits at_ : Nat) (l : List Int) (w : World) (hA : Byt w w.heap.size A l) (hl : l.length ≤ 1000000) (hby : ∀ x ∈ l, 0 ≤ x ∧ x ≤ 255) (hb1 : 1 ≤ bits) (hb64 : bits ≤ 64) (hat : at_ ≤ l.length) :
    Calls Try.prog 22 #[.slice A l.length c, .int .i64 (at_ : Int), .int .i64 (bits : Int)] w (RTold w (sV (rdl fitS bits (l.drop at_) 0 0)) (uP at_ (rdl fitS bits (l.drop at_) 0 0)) (uE (rdl fitS bits (l.drop at_) 0 0)) .i64) := by
  have hd := digits_ok A c bits at_ l w hA hl hby hb1 hb64 hat
  have hs := same_S hb1 hb64 (l.drop at_) fun x hx => hby x (List.mem_of_mem_drop hx)
  cases hq : dgl ((bits + 6) / 7) (l.drop at_) 1 [] with
  | short =>
    rw [hq] at hd hs
    have hs : rdl fitS bits (l.drop at_) 0 0 = .short := hs
    rw [hs]
    exact refReadS_err A _ c _ _ 2 w (by decide) hd
  | form =>
    rw [hq] at hd hs
    have hs : rdl fitS bits (l.drop at_) 0 0 = .form := hs
    rw [hs]
    exact refReadS_err A _ c _ _ 3 w (by decide) hd
  | ok bl =>
    obtain ⟨hlo, hhi, hm7, hdig⟩ := dgl_ok _ 1 [] bl (by omega) (by omega) rfl (by simp) hq
    obtain ⟨b1, rfl⟩ : ∃ b1, bits = b1 + 1 := ⟨bits - 1, by omega⟩
    have hok := refReadS_ok A c b1 at_ l bl w hA hl hby hb64 hat hq
    rw [hq] at hs
    by_cases hh : hiS (b1 + 1) bl
    · rw [hs.1 hh]
      simp only [sV, uP, uE]
      rw [← vS_ext bl hdig hlo (by omega) hm7]
      exact hok.1 hh
    · rw [hs.2 hh]
      exact hok.2 hh

set_option maxHeartbeats 4000000 in
set_option maxRecDepth 100000 in
/-- All four readers, whatever they answer, as long as they answer the same. -/
theorem reads_core (A : Option Addr) (n c : Nat) (at_ bits v1 p1 e1 v2 p2 e2 : Int) (w : World) (hn : n ≤ 1000)
    (h1 : ∀ W, Below w.heap.size w W → Calls Try.prog 19 #[.slice A n c, .int .i64 at_, .int .i64 bits] W (RTold W v1 p1 e1 .u64))
    (h2 : ∀ W, Below w.heap.size w W → Calls Try.prog 20 #[.slice A n c, .int .i64 at_, .int .i64 bits] W (RTold W v1 p1 e1 .u64))
    (h3 : ∀ W, Below w.heap.size w W → Calls Try.prog 21 #[.slice A n c, .int .i64 at_, .int .i64 bits] W (RTold W v2 p2 e2 .i64))
    (h4 : ∀ W, Below w.heap.size w W → Calls Try.prog 22 #[.slice A n c, .int .i64 at_, .int .i64 bits] W (RTold W v2 p2 e2 .i64)) :
    Calls Try.prog 4 #[.slice A n c, .int .i64 at_, .int .i64 bits] w fun e w' => e = .returned (.bool true) ∧ Below w.heap.size w w' := by
  have H1 := Lib.hid h1
  have H2 := Lib.hid h2
  have H3 := Lib.hid h3
  have H4 := Lib.hid h4
  clear h1 h2 h3 h4
  go_enter Try.func4, Try.ntmps4
  go_wp2_with (go_at_call 10; refine (awake_any _).mono ?_; rintro e w1 ⟨rfl, hb1⟩)
  refine (H1.out _ hb1).mono ?_
  rintro e w2 ⟨rfl, hb2⟩
  have b2 := hb1.trans (hb2.mono hb1.size)
  clear hb1 hb2
  go_wp2_with fail
  refine (H2.out _ b2).mono ?_
  rintro e w3 ⟨rfl, hb3⟩
  have b3 := b2.trans (hb3.mono b2.size)
  clear b2 hb3
  go_wp2_with fail
  refine (H3.out _ b3).mono ?_
  rintro e w4 ⟨rfl, hb4⟩
  have b4 := b3.trans (hb4.mono b3.size)
  clear b3 hb4
  go_wp2_with fail
  refine (H4.out _ b4).mono ?_
  rintro e w5 ⟨rfl, hb5⟩
  have b5 := b4.trans (hb5.mono b4.size)
  clear b4 hb5 H1 H2 H3 H4
  go_wp2_with fail
  go_ret
  exact ⟨rfl, b5⟩

set_option maxHeartbeats 400000 in
set_option maxRecDepth 100000 in
theorem reads_big (A : Option Addr) (n c : Nat) (x y : Int) (w : World) (hl : 1000 < n) (hm : n ≤ 9223372036854775807) :
    Calls Try.prog 4 #[.slice A n c, .int .i64 x, .int .i64 y] w fun e w' => e = .returned (.bool true) ∧ Below w.heap.size w w' := by
  go_enter Try.func4, Try.ntmps4
  go_wp2_with (go_at_call 10; refine (awake_any _).mono ?_; rintro e w1 ⟨rfl, hb1⟩)
  go_ret
  exact ⟨rfl, hb1⟩

theorem bad_told {w : World} {f : FuncId} {args : Array Value} {k : IntKind} (h : Calls Try.prog f args w fun e w' => e = .returned (.tuple #[.int k 0, .int .i64 0, .int .i64 1]) ∧ w = w') : Calls Try.prog f args w (RTold w 0 0 1 k) :=
  h.mono fun e w' ⟨he, hw⟩ => ⟨he, by subst hw; exact Below.refl _ _⟩

theorem reads_any (a : Option Addr) (len cap : Nat) (zs : List Int) (at_ bits : Int) (w : World) (hr : Came .u8 w a len cap zs) :
    Calls Try.prog 4 #[.slice a len cap, .int .i64 at_, .int .i64 bits] w fun e w' => e = .returned (.bool true) ∧ Below w.heap.size w w' := by
  obtain ⟨hb, hl, hby, hm⟩ := hr.byt
  by_cases h : len ≤ 1000
  · have key : Calls Try.prog 4 #[.slice a (zs.take len).length cap, .int .i64 at_, .int .i64 bits] w fun e w' => e = .returned (.bool true) ∧ Below w.heap.size w w' := by
      by_cases hbad : badArg (zs.take len) at_ bits
      · refine reads_core a _ cap at_ bits 0 0 1 0 0 1 w (by omega) (fun W _ => ?_) (fun W _ => ?_) (fun W _ => ?_) (fun W _ => ?_)
        · exact bad_told (ReadU_bad a cap bits at_ _ W (by omega) hbad)
        · exact refReadU_err a _ cap bits at_ 1 W (by decide) ((digits_bad a cap bits at_ _ W hbad).mono fun e w' ⟨he, hw⟩ => ⟨he, by subst hw; exact Below.refl _ _⟩)
        · exact bad_told (ReadS_bad a cap bits at_ _ W (by omega) hbad)
        · exact refReadS_err a _ cap bits at_ 1 W (by decide) ((digits_bad a cap bits at_ _ W hbad).mono fun e w' ⟨he, hw⟩ => ⟨he, by subst hw; exact Below.refl _ _⟩)
      · unfold badArg at hbad
        obtain ⟨b, rfl⟩ := Int.eq_ofNat_of_zero_le (show 0 ≤ bits by omega)
        obtain ⟨k, rfl⟩ := Int.eq_ofNat_of_zero_le (show 0 ≤ at_ by omega)
        refine reads_core a _ cap k b (uV (rdl fitU b ((zs.take len).drop k) 0 0)) (uP k (rdl fitU b ((zs.take len).drop k) 0 0)) (uE (rdl fitU b ((zs.take len).drop k) 0 0)) (sV (rdl fitS b ((zs.take len).drop k) 0 0)) (uP k (rdl fitS b ((zs.take len).drop k) 0 0)) (uE (rdl fitS b ((zs.take len).drop k) 0 0)) w (by omega) (fun W hW => ?_) (fun W hW => ?_) (fun W hW => ?_) (fun W hW => ?_)
        · exact ReadU_is a cap b k _ W ((hb.keep hW).mono hW.size) (by omega) hby (by omega) (by omega) (by omega)
        · exact refReadU_is a cap b k _ W ((hb.keep hW).mono hW.size) (by omega) hby (by omega) (by omega) (by omega)
        · exact ReadS_is a cap b k _ W ((hb.keep hW).mono hW.size) (by omega) hby (by omega) (by omega) (by omega)
        · exact refReadS_is a cap b k _ W ((hb.keep hW).mono hW.size) (by omega) hby (by omega) (by omega) (by omega)
    rw [hl] at key
    exact key
  · exact reads_big a len cap at_ bits w (by omega) hm
end Go.Proofs.Ytognfgiekffmhaa.Leb
