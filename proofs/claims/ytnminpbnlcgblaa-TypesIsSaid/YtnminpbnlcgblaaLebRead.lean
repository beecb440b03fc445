/- The function that gathers a number's digits, walked for both ways to ask its last byte: what it answers is what a plain function on the bytes says. -/
import Derived.Test.YtnminpbnlcgblaaLebFits
import Derived.Laws.BitsAllLaws
import Derived.OneCell
namespace Go.Proofs.Ytnminpbnlcgblaa.Leb
open Go.RowKit

/-- How reading ends. -/
inductive RU where
  | short
  | form
  | ok (v m : Nat)

/-- Seven digits more, above lo others. -/
def more (acc lo : Nat) (c : Int) : Nat := acc + (c % 128).toNat * 2 ^ lo % 18446744073709551616

/-- Bytes read from the front, lo digits having been gathered. -/
def rdl (fit : Int → Nat → Bool) (bits : Nat) : List Int → Nat → Nat → RU
  | [], _, _ => .short
  | c :: r, lo, acc =>
    if bits ≤ lo + 7 ∧ (128 ≤ c ∨ fit c (bits - lo) = false) then .form
    else if c < 128 then .ok (more acc lo c) (lo + 7)
    else rdl fit bits r (lo + 7) (more acc lo c)

theorem split64 (y lo : Nat) (hlo : lo ≤ 63) : y * 2 ^ lo % 18446744073709551616 = 2 ^ lo * (y % 2 ^ (64 - lo)) := by
  have e : 18446744073709551616 = 2 ^ lo * 2 ^ (64 - lo) := by rw [← Nat.pow_add, show lo + (64 - lo) = 64 from by omega]
  rw [e, Nat.mul_comm y, Nat.mul_mod_mul_left]

theorem or_add (acc lo : Nat) (c : Int) (hlo : lo ≤ 63) (ha : acc < 2 ^ lo) :
    bits .or .u64 (acc : Int) (IntKind.u64.wrap (c % 128 * 2 ^ lo)) = (more acc lo c : Int) := by
  unfold more
  obtain ⟨n, hn⟩ := Int.eq_ofNat_of_zero_le (show 0 ≤ c % 128 by omega)
  rw [hn]
  have h1 : IntKind.u64.wrap ((n : Int) * 2 ^ lo) = ((n * 2 ^ lo % 18446744073709551616 : Nat) : Int) := by
    rw [IntKind.wrap_u64]
    have : ((n : Int) * 2 ^ lo) = ((n * 2 ^ lo : Nat) : Int) := by simp
    rw [this]
    omega
  have h2 : (2 : Nat) ^ lo ≤ 2 ^ 63 := Nat.pow_le_pow_right (by omega) hlo
  rw [h1, u64_or_nat _ _ (by omega) (Nat.mod_lt _ (by omega)), Int.toNat_natCast, split64 n lo hlo, Nat.or_comm, Nat.add_comm acc, Nat.two_pow_add_eq_or_of_lt ha]

/-- What the loop keeps. -/
structure Loop (fit : Int → Nat → Bool) (bits at_ : Nat) (l : List Int) (A : Option Addr) (c : Nat) (w : World) (k lo acc : Nat) (wr : World) : Prop where
  low : 7 * k = 7 * at_ + lo
  lt : lo < bits
  lim : acc < 2 ^ lo
  same : rdl fit bits (l.drop k) lo acc = rdl fit bits (l.drop at_) 0 0
  le : k ≤ l.length
  cat : wr.cell? ⟨w.heap.size + 1, 0, none⟩ = some (.int .i64 (k : Int))
  fr : wr.frozen? ⟨w.heap.size + 1, 0, none⟩ = false
  cb : wr.cell? ⟨w.heap.size, 0, none⟩ = some (.slice A l.length c)
  bel : Below w.heap.size w wr
  big : w.heap.size + 1 < wr.heap.size

theorem Loop.start (fit : Int → Nat → Bool) (bits at_ : Nat) (l : List Int) (A : Option Addr) (c : Nat) (w : World) (hb : 1 ≤ bits) (hat : at_ ≤ l.length) :
    Loop fit bits at_ l A c w at_ 0 0 ((w.alloc (.cells #[.slice A l.length c] 22)).alloc (.cells #[.int .i64 (at_ : Int)] 3)) := by
  refine ⟨rfl, by omega, by simp, rfl, hat, ?_, ?_, ?_, ((Below.refl _ _).alloc (Nat.le_refl _) _).alloc (by simp) _, by simp⟩
  · rw [World.cell?_alloc_at _ _ _ _ (by simp)]; rfl
  · exact World.frozen?_alloc_at _ _ _ _ (by simp)
  · rw [World.cell?_alloc_past _ _ _ (by simp), World.cell?_alloc_at _ _ _ _ rfl]; rfl

theorem Loop.next {fit : Int → Nat → Bool} {bits at_ : Nat} {l : List Int} {A : Option Addr} {c : Nat} {w wr : World} {k lo acc : Nat} (h : Loop fit bits at_ l A c w k lo acc wr) {x : Int} (hx : l[k]? = some x) (h0 : 128 ≤ x) (hb : lo + 7 < bits) (h64 : bits ≤ 64) (m : Nat) :
    Loop fit bits at_ l A c w (k + 1) (lo + 7) (more acc lo x) ((wr.setCell ⟨w.heap.size + 1, 0, none⟩ (.int .i64 ((k : Int) + 1))).drewN m) := by
  have hlt : k < l.length := (List.getElem?_eq_some_iff.1 hx).1
  refine ⟨by have := h.low; omega, hb, ?_, ?_, by omega, ?_, ?_, ?_, ?_, ?_⟩
  · have hp : (2 : Nat) ^ (lo + 7) = 2 ^ lo * 128 := by rw [Nat.pow_add]
    have h3 : (2 : Nat) ^ (lo + 7) ≤ 2 ^ 63 := Nat.pow_le_pow_right (by omega) (by omega)
    have ha := h.lim
    have h4 : (x % 128).toNat * 2 ^ lo ≤ 127 * 2 ^ lo := Nat.mul_le_mul_right _ (by omega)
    have h5 := Nat.mod_le ((x % 128).toNat * 2 ^ lo) 18446744073709551616
    unfold more
    rw [hp]
    omega
  · rw [← h.same]
    have hd : l.drop k = x :: l.drop (k + 1) := by
      rw [List.drop_eq_getElem_cons hlt]
      congr 1
      exact (List.getElem?_eq_some_iff.1 hx).2
    rw [hd, rdl, if_neg (by omega), if_neg (by omega)]
  · show (wr.setCell _ _).cell? _ = _
    rw [World.cell?_setCell_same _ _ _ h.cat]
    congr 1
  · show (wr.setCell _ _).frozen? _ = _
    rw [World.frozen?_setCell]
    exact h.fr
  · show (wr.setCell _ _).cell? _ = _
    rw [World.cell?_setCell_other _ _ _ _ (by intro e; injection e with e; omega)]
    exact h.cb
  · have := h.bel.setCell (p := ⟨w.heap.size + 1, 0, none⟩) (by simp) (.int .i64 ((k : Int) + 1))
    exact ⟨this.os, this.tape, this.output, this.size, this.block⟩
  · show _ < (wr.setCell _ _).heap.size
    have := h.big
    simpa [World.setCell] using this

/-- What the four results are. -/
def told (at_ : Nat) : RU → Value
  | .short => .tuple #[.int .u64 0, .int .i64 0, .int .i64 0, .int .i64 2]
  | .form => .tuple #[.int .u64 0, .int .i64 0, .int .i64 0, .int .i64 3]
  | .ok v m => .tuple #[.int .u64 (v : Int), .int .i64 (m : Int), .int .i64 ((at_ + m / 7 : Nat) : Int), .int .i64 0]
def Told (w : World) (at_ : Nat) (r : RU) (e : Ending) (w' : World) : Prop := e = .returned (told at_ r) ∧ Below w.heap.size w w'

theorem results4 {fn : Func} {t u v x : Tmp} (h : fn.results = #[.tmp t, .tmp u, .tmp v, .tmp x]) (tmps : Array Value) (P : Program) (w : World) :
    (results fn tmps).run P w = .ok (.tuple #[tmps.getD t undef, tmps.getD u undef, tmps.getD v undef, tmps.getD x undef]) w := by simp [results, h]

theorem rdl_nil {fit : Int → Nat → Bool} {bits lo acc : Nat} : rdl fit bits [] lo acc = .short := rfl
theorem rdl_form {fit : Int → Nat → Bool} {bits lo acc : Nat} {c : Int} {r : List Int} (h : bits ≤ lo + 7) (h2 : 128 ≤ c ∨ fit c (bits - lo) = false) : rdl fit bits (c :: r) lo acc = .form := by rw [rdl, if_pos ⟨h, h2⟩]
theorem rdl_ok {fit : Int → Nat → Bool} {bits lo acc : Nat} {c : Int} {r : List Int} (h : bits ≤ lo + 7 → fit c (bits - lo) = true) (h2 : c < 128) : rdl fit bits (c :: r) lo acc = .ok (more acc lo c) (lo + 7) := by
  rw [rdl, if_neg (by rintro ⟨h3, h4 | h4⟩; omega; rw [h h3] at h4; cases h4), if_pos h2]

theorem Loop.ended {fit : Int → Nat → Bool} {bits at_ : Nat} {l : List Int} {A : Option Addr} {c : Nat} {w wr : World} {k lo acc : Nat} (h : Loop fit bits at_ l A c w k lo acc wr) {r : RU} {ls : List Int} {w' : World} (hl : l.drop k = ls) (hr : rdl fit bits ls lo acc = r) (hb : Below w.heap.size w w') :
    Told w at_ (rdl fit bits (l.drop at_) 0 0) (.returned (told at_ r)) w' := by
  subst hr hl
  rw [h.same]
  exact ⟨rfl, hb⟩

theorem Loop.below {fit : Int → Nat → Bool} {bits at_ : Nat} {l : List Int} {A : Option Addr} {c : Nat} {w wr : World} {k lo acc : Nat} (h : Loop fit bits at_ l A c w k lo acc wr) (v : Value) (m : Nat) : Below w.heap.size w ((wr.setCell ⟨w.heap.size + 1, 0, none⟩ v).drewN m) := by
  have := h.bel.setCell (p := ⟨w.heap.size + 1, 0, none⟩) (by simp) v
  exact ⟨this.os, this.tape, this.output, this.size, this.block⟩

theorem drop_at {l : List Int} {k : Nat} {x : Int} (hx : l[k]? = some x) : l.drop k = x :: l.drop (k + 1) := by
  have hlt := (List.getElem?_eq_some_iff.1 hx).1
  rw [List.drop_eq_getElem_cons hlt]
  congr 1
  exact (List.getElem?_eq_some_iff.1 hx).2

theorem told_ok (at_ k lo v : Nat) (h : 7 * k = 7 * at_ + lo) : told at_ (.ok v (lo + 7)) = .tuple #[.int .u64 (v : Int), .int .i64 ((lo : Int) + 7), .int .i64 ((k : Int) + 1), .int .i64 0] := by
  have e : at_ + (lo + 7) / 7 = k + 1 := by omega
  simp only [told, e]
  rfl

theorem taker_any (A : Option Addr) (n c : Nat) (k : Int) (w : World) : Calls Try.prog 49 #[.slice A n c, .int .i64 k] w fun e w' =>
    e = .returned (.func (.func 50) #[] #[.pointer (some ⟨w.heap.size + 1, 0, none⟩), .pointer (some ⟨w.heap.size, 0, none⟩)]) ∧ (w.alloc (.cells #[.slice A n c] 22)).alloc (.cells #[.int .i64 k] 3) = w' := by
  have hmf : ∀ (fn : Fn) (first cap : Array Value) (w : World), (Instr.makeFunc fn first cap).run Try.prog w = .ok (.func fn first cap) w := fun _ _ _ _ => rfl
  go_enter Try.func49, Try.ntmps49
  go_wp2
  go_ret
  exact ⟨rfl, rfl⟩

set_option maxHeartbeats 2000000 in
set_option maxRecDepth 100000 in
theorem readU_any (A : Option Addr) (c bits at_ : Nat) (l : List Int) (w : World) (hA : Byt w w.heap.size A l) (hl : l.length ≤ 1000000) (hby : ∀ x ∈ l, 0 ≤ x ∧ x ≤ 255) (hb1 : 1 ≤ bits) (hb64 : bits ≤ 64) (hat : at_ ≤ l.length) :
    Calls Try.prog 43 #[.slice A l.length c, .int .i64 (at_ : Int), .int .i64 (bits : Int), .func (.func 44) #[] #[]] w (Told w at_ (rdl fitU bits (l.drop at_) 0 0)) := by
  have HA := Lib.hid hA
  have HB := Lib.hid hby
  have HS := Lib.hid (Loop.start fitU bits at_ l A c w hb1 hat)
  have d1 : decide ((bits : Int) < 1) = false := by simp; omega
  have d2 : decide (64 < (bits : Int)) = false := by simp; omega
  have d3 : decide ((at_ : Int) < 0) = false := by simp
  have d4 : decide (l.length < at_) = false := by simp; omega
  clear hA hby
  go_enter Try.func43, Try.ntmps43
  go_wp2_with (go_at_call 49; refine (taker_any _ _ _ _ _).mono ?_; rintro e w' ⟨rfl, rfl⟩)
  clear d1 d2 d3 d4
  go_loopw [13, 14] (fun d lo wr => ∃ k q acc : Nat, d = .int .u64 (acc : Int) ∧ lo = .int .i64 (q : Int) ∧ Loop fitU bits at_ l A c w k q acc wr) (fun _ lo _ => 64 - (intOf lo).toNat)
  case atStart => exact ⟨at_, 0, 0, rfl, rfl, HS.out⟩
  case round =>
    obtain ⟨k, lo, acc, rfl, rfl, hL⟩ := hrel
    have HL := Lib.hid hL
    have hlt := hL.lt
    have hle := hL.le
    have HC := Lib.hid (And.intro hL.cat (And.intro hL.fr hL.cb))
    clear hL HS
    by_cases hn : k = l.length
    · have HN := Lib.hid hn
      have hge : l.length ≤ k := by omega
      clear hn
      go_wp2_with (go_at_call 50; refine (next_no _ _ k _ _ _ _ HC.out.1 HC.out.2.2 hge).mono ?_; rintro e w' ⟨rfl, rfl⟩)
      refine bodyPost_ret (results4 rfl _ _ _) rfl ?_
      exact HL.out.ended (r := .short) (ls := []) (by rw [HN.out]; exact List.drop_length) rfl HL.out.bel
    · have hk : k < l.length := by omega
      clear hn hle
      obtain ⟨x, hx⟩ : ∃ x, l[k]? = some x := ⟨_, List.getElem?_eq_getElem hk⟩
      obtain ⟨hx0, hx1⟩ := HB.out x (List.mem_of_getElem? hx)
      obtain ⟨ad, hAe, had, hcell⟩ := HA.out (by omega)
      have hc1 := hcell k (.int .u8 x) (by simp [vb, hx])
      obtain ⟨ab, ao, asp⟩ := ad
      have hspot : asp = none := by
        have h0 := hcell 0 (.int .u8 (l[0]'(by omega))) (by simp [vb, show 0 < l.length by omega])
        simpa [Addr.add] using World.cell?_spot h0
      subst hspot
      have hplain : (⟨ab, ao, none⟩ : Addr).add k = ⟨ab, ao + k, none⟩ := by unfold Addr.add; split <;> simp_all
      rw [hplain] at hc1
      have hc2 : wr.cell? ⟨ab, ao + k, none⟩ = some (.int .u8 x) := (HL.out.bel.cell (p := ⟨ab, ao + k, none⟩) had).trans hc1
      rw [hAe] at HC
      have HY := Lib.hid (next_yes (w.heap.size + 1) w.heap.size ab ao k l.length c x wr HC.out.1 HC.out.2.1 HC.out.2.2 hk (by omega) hc2)
      have HX := Lib.hid hx
      have HO := Lib.hid (or_add acc lo x (by omega) HL.out.lim)
      clear hx hAe hcell hc1 hplain hc2 HC had
      by_cases h7 : bits ≤ lo + 7
      · by_cases hg : 128 ≤ x
        · go_wp2_with (go_at_call 50; refine HY.out.mono ?_; rintro e w' ⟨rfl, m, rfl⟩)
          refine bodyPost_ret (results4 rfl _ _ _) rfl ?_
          exact HL.out.ended (r := .form) (drop_at HX.out) (rdl_form h7 (.inl hg)) (HL.out.below _ _)
        · have hor := HO.out
          have HF := Lib.hid (fun W => fitU_any x (bits - lo) W hx0 (by omega) (by omega) (by omega))
          have ed : ((bits : Int) - (lo : Int)) = ((bits - lo : Nat) : Int) := by omega
          by_cases hf : fitU x (bits - lo) = true
          · go_wp2_with (first | (go_at_call 50; refine HY.out.mono ?_; rintro e w' ⟨rfl, m, rfl⟩) | (go_at_call 44; refine (HF.out _).mono ?_; rintro e w' ⟨rfl, rfl⟩))
            refine bodyPost_ret (results4 rfl _ _ _) rfl ?_
            have fin := HL.out.ended (drop_at HX.out) (rdl_ok (fun _ => hf) (by omega)) (HL.out.below (.int .i64 ((k : Int) + 1)) m)
            rw [told_ok at_ k lo _ HL.out.low] at fin
            exact fin
          · have hf2 : fitU x (bits - lo) = false := by simpa using hf
            clear hf
            go_wp2_with (first | (go_at_call 50; refine HY.out.mono ?_; rintro e w' ⟨rfl, m, rfl⟩) | (go_at_call 44; refine (HF.out _).mono ?_; rintro e w' ⟨rfl, rfl⟩))
            refine bodyPost_ret (results4 rfl _ _ _) rfl ?_
            exact HL.out.ended (r := .form) (drop_at HX.out) (rdl_form h7 (.inr hf2)) (HL.out.below _ _)
      · have hor := HO.out
        by_cases hg : 128 ≤ x
        · go_wp2_with (go_at_call 50; refine HY.out.mono ?_; rintro e w' ⟨rfl, m, rfl⟩)
          go_roundw
          case rel => exact ⟨k + 1, lo + 7, _, rfl, by go_num, HL.out.next HX.out hg (by omega) hb64 m⟩
          case measure => simp [intOf]; omega
        · go_wp2_with (go_at_call 50; refine HY.out.mono ?_; rintro e w' ⟨rfl, m, rfl⟩)
          refine bodyPost_ret (results4 rfl _ _ _) rfl ?_
          have fin := HL.out.ended (drop_at HX.out) (rdl_ok (fun h => absurd h h7) (by omega)) (HL.out.below (.int .i64 ((k : Int) + 1)) m)
          rw [told_ok at_ k lo _ HL.out.low] at fin
          exact fin
end Go.Proofs.Ytnminpbnlcgblaa.Leb
