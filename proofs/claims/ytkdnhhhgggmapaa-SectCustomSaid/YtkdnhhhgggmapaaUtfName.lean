/- The document's Name, walked. -/
import Derived.Test.YtkdnhhhgggmapaaUtfFrom
import Derived.Test.YtkdnhhhgggmapaaLebTwo
namespace Go.Proofs.Ytkdnhhhgggmapaa.Utf
open Go.RowKit
set_option maxRecDepth 100000
set_option maxHeartbeats 400000

/-- How a name is told. -/
def NmTold (w : World) (s : List Int) (p e : Int) (en : Ending) (w' : World) : Prop := en = .returned (.tuple #[.string (strOfNums s), .int .i64 p, .int .i64 e]) ∧ Below w.heap.size w w'
theorem NmTold.of {w w' : World} {s : List Int} {p e : Int} {en : Ending} (h : en = .returned (.tuple #[.string (strOfNums s), .int .i64 p, .int .i64 e]) ∧ Below w.heap.size w w') : NmTold w s p e en w' := h
theorem str_nil : strOfNums [] = ByteArray.empty := rfl
theorem name_err (sl : Value) (at_ e : Int) (w : World) (he : (e != 0) = true)
    (h : Calls Try.prog 26 #[sl, .int .i64 at_, .int .i64 32] w (Leb.RTold w 0 0 e .u64)) :
    Calls Try.prog 27 #[sl, .int .i64 at_] w (NmTold w [] 0 e) := by
  have H := Lib.hid h
  clear h
  go_enter Try.func27, Try.ntmps27
  go_wp2_with fail
  refine H.out.mono ?_
  rintro en w1 ⟨rfl, hb⟩
  have HB := Lib.hid hb
  clear hb
  go_wp2_with fail
  go_ret3
  exact ⟨rfl, HB.out⟩
theorem name_short (A : Option Addr) (n c v p : Nat) (at_ : Int) (w : World) (hn : n ≤ 1000000) (hp : p ≤ n) (hv : n - p < v)
    (h : Calls Try.prog 26 #[.slice A n c, .int .i64 at_, .int .i64 32] w (Leb.RTold w (v : Int) (p : Int) 0 .u64)) :
    Calls Try.prog 27 #[.slice A n c, .int .i64 at_] w (NmTold w [] 0 2) := by
  have H := Lib.hid h
  have h1 : (n : Int) - (p : Int) < (v : Int) := by omega
  have h2 : IntKind.i64.wrap ((n : Int) - (p : Int)) = (n : Int) - (p : Int) := IntWalk.i64_in _ (by omega)
  have h3 : IntKind.u64.wrap ((n : Int) - (p : Int)) = (n : Int) - (p : Int) := by rw [IntKind.wrap_u64]; omega
  clear h
  go_enter Try.func27, Try.ntmps27
  go_wp2_with fail
  refine H.out.mono ?_
  rintro en w1 ⟨rfl, hb⟩
  have HB := Lib.hid hb
  clear hb
  go_wp2_with fail
  go_ret3
  exact ⟨rfl, HB.out⟩
theorem name_limit (A : Option Addr) (n c v p : Nat) (at_ : Int) (w : World) (hn : n ≤ 1000000) (hp : p ≤ n) (hv : v ≤ n - p) (hv2 : 64 < v)
    (h : Calls Try.prog 26 #[.slice A n c, .int .i64 at_, .int .i64 32] w (Leb.RTold w (v : Int) (p : Int) 0 .u64)) :
    Calls Try.prog 27 #[.slice A n c, .int .i64 at_] w (NmTold w [] 0 4) := by
  have H := Lib.hid h
  have h1 : decide ((n : Int) - (p : Int) < (v : Int)) = false := by simp; omega
  have h2 : IntKind.i64.wrap ((n : Int) - (p : Int)) = (n : Int) - (p : Int) := IntWalk.i64_in _ (by omega)
  have h3 : IntKind.u64.wrap ((n : Int) - (p : Int)) = (n : Int) - (p : Int) := by rw [IntKind.wrap_u64]; omega
  have h4 : decide ((64 : Int) < (v : Int)) = true := by simp; omega
  clear h
  go_enter Try.func27, Try.ntmps27
  go_wp2_with fail
  refine H.out.mono ?_
  rintro en w1 ⟨rfl, hb⟩
  have HB := Lib.hid hb
  clear hb
  go_wp2_with fail
  go_ret3
  exact ⟨rfl, HB.out⟩
/-- Where a part of a row lies: at the row's own place, if no room is left. -/
def offAt (off c p : Nat) : Nat := if c = p then off else off + p
theorem part_run (g off n c p v : Nat) (hp : p + v ≤ n) (hc : n ≤ c) (W : World) :
    (Instr.sliceAt 22 (.slice (some ⟨g, off, none⟩) n c) (some (.int .i64 (p : Int))) (some (.int .i64 ((p : Int) + (v : Int)))) none).run Try.prog W = .ok (.slice (some ⟨g, offAt off c p, none⟩) v (c - p)) W := by
  have e0 : (0 : Int) ≤ (p : Int) := by omega
  have e1 : (p : Int) ≤ (p : Int) + (v : Int) := by omega
  have e2 : (p : Int) + (v : Int) ≤ (c : Int) := by omega
  have e3 : ((p : Int) + (v : Int)).toNat = p + v := by omega
  have e4 : p + v - p = v := by omega
  unfold offAt
  by_cases hcp : c = p
  · subst hcp
    obtain rfl : v = 0 := by omega
    go_simp
  · rw [if_neg hcp]
    go_simp
theorem part_sl {w : World} {g off c p v : Nat} {l : List Int} (hB : Byt w w.heap.size ⟨g, off, none⟩ l) (hp : p + v ≤ l.length) (hc : l.length ≤ c) (hm : c ≤ 9223372036854775807) :
    ((l.drop p).take v).length = v ∧ Sl w (.slice (some ⟨g, offAt off c p, none⟩) v (c - p)) ((l.drop p).take v) := by
  have hlen : ((l.drop p).take v).length = v := by rw [List.length_take, List.length_drop]; omega
  refine ⟨hlen, some ⟨g, offAt off c p, none⟩, c - p, by rw [hlen], by rw [hlen]; omega, by omega, fun h0 => ⟨g, offAt off c p, rfl, ?_⟩⟩
  have hv : 0 < v := by
    rcases Nat.eq_zero_or_pos v with h | h
    · subst h; exact absurd (by simp) h0
    · exact h
  unfold offAt
  rw [if_neg (by omega)]
  exact (hB.drop p).take v
theorem Sl.txt {w : World} {g off c : Nat} {l : List Int} {n : Nat} (h : Sl w (.slice (some ⟨g, off, none⟩) n c) l) (hn : l.length = n) : (convert 22 9 (.slice (some ⟨g, off, none⟩) n c)).run Try.prog w = .ok (.string (strOfNums l)) w := by
  obtain ⟨A, c2, e, _, _, h4⟩ := h
  refine run_txt w g off n c l hn fun i hi => ?_
  have h0 : l ≠ [] := fun e => by rw [e] at hn; simp at hn; omega
  obtain ⟨g2, off2, e2, hB⟩ := h4 h0
  subst e2
  simp only [Value.slice.injEq, Option.some.injEq, Addr.mk.injEq] at e
  obtain ⟨⟨rfl, rfl, _⟩, _⟩ := e
  exact hB.2.2 i (by omega)
theorem name_in (g off c v p : Nat) (at_ : Int) (l : List Int) (w : World) (hby : ∀ x ∈ l, 0 ≤ x ∧ x < 256) (hB : Byt w w.heap.size ⟨g, off, none⟩ l) (hn : l.length ≤ 1000000) (hp : p ≤ l.length) (hv : v ≤ l.length - p) (hv2 : v ≤ 64) (hc : l.length ≤ c) (hm : c ≤ 9223372036854775807)
    (h : Calls Try.prog 26 #[.slice (some ⟨g, off, none⟩) l.length c, .int .i64 at_, .int .i64 32] w (Leb.RTold w (v : Int) (p : Int) 0 .u64)) :
    Calls Try.prog 27 #[.slice (some ⟨g, off, none⟩) l.length c, .int .i64 at_] w (bif isT ((l.drop p).take v) then NmTold w ((l.drop p).take v) ((p : Int) + (v : Int)) 0 else NmTold w [] 0 3) := by
  have H := Lib.hid h
  have HB := Lib.hid hB
  have hq : ∀ x ∈ (l.drop p).take v, 0 ≤ x ∧ x < 256 := fun x hx => hby x (List.mem_of_mem_drop (List.mem_of_mem_take hx))
  have HQ := Lib.hid hq
  have hsl := part_run g off l.length c p v (by omega) hc
  have HP := Lib.hid (part_sl (w := w) (p := p) (v := v) hB (by omega) hc hm)
  revert HQ HP
  generalize (l.drop p).take v = q
  intro HQ HP
  revert hsl HP
  generalize offAt off c p = o
  intro hsl HP
  have h1 : decide ((l.length : Int) - (p : Int) < (v : Int)) = false := by simp; omega
  have h2 : IntKind.i64.wrap ((l.length : Int) - (p : Int)) = (l.length : Int) - (p : Int) := IntWalk.i64_in _ (by omega)
  have h3 : IntKind.u64.wrap ((l.length : Int) - (p : Int)) = (l.length : Int) - (p : Int) := by rw [IntKind.wrap_u64]; omega
  have h4 : decide ((64 : Int) < (v : Int)) = false := by simp; omega
  have h5 : IntKind.i64.wrap (v : Int) = (v : Int) := IntWalk.i64_in _ (by omega)
  have h6 : IntKind.i64.wrap ((p : Int) + (v : Int)) = (p : Int) + (v : Int) := IntWalk.i64_in _ (by omega)
  clear h hB hby hq hn hp hv hv2 hc hm
  go_enter Try.func27, Try.ntmps27
  go_wp2_with fail
  refine H.out.mono ?_
  rintro en w1 ⟨rfl, hb⟩
  have HB1 := Lib.hid hb
  clear hb
  have HL := Lib.hid HP.out.1
  have HS1 := Lib.hid (HP.out.2.keep HB1.out)
  have hV := valid_any _ q w1 HQ.out HS1.out (by rw [HL.out]; have := h4; simp at this; omega)
  cases hT : isT q with
  | true =>
    rw [hT] at hV
    have HV := Lib.hid hV
    have HT := Lib.hid hT
    clear hV hT
    go_wp2_with (go_at_call 38; refine HV.out.mono ?_; rintro en w2 ⟨rfl, hb2⟩; have HB2 := Lib.hid (HB1.out.trans (hb2.mono HB1.out.size)); have htx := (HS1.out.keep hb2).txt HL.out; clear hb2)
    go_ret3
    rw [HT.out]
    exact ⟨rfl, HB2.out⟩
  | false =>
    rw [hT] at hV
    have HV := Lib.hid hV
    have HT := Lib.hid hT
    clear hV hT
    go_wp2_with (go_at_call 38; refine HV.out.mono ?_; rintro en w2 ⟨rfl, hb2⟩; have HB2 := Lib.hid (HB1.out.trans (hb2.mono HB1.out.size)); clear hb2)
    go_ret3
    rw [HT.out]
    exact ⟨rfl, HB2.out⟩
end Go.Proofs.Ytkdnhhhgggmapaa.Utf
