/- May a text have a number, by the program's word and the library's; the library's bytes of a number, laid behind one's own. -/
import Derived.Test.YtfilcddkcbdbnaaUtfFrom
import Derived.Lib.OthersKept
namespace Go.Proofs.Ytfilcddkcbdbnaa.Utf
open Go.RowKit
set_option maxRecDepth 100000
set_option maxHeartbeats 1000000

theorem valid_rune (v : Int) (h0 : 0 ≤ v) (h1 : v ≤ 1114111) (w : World) : Calls Try.prog 32 #[.int .i32 v] w fun e w' => e = .returned (.bool (decide (okR v))) ∧ w = w' := by
  by_cases a : v < 55296
  · have H : Hid (decide (okR v) = true) := decide_eq_true ⟨h0, h1, by omega⟩
    go_enter Try.func32, Try.ntmps32
    go_wp2
    go_ret
    exact ⟨ret_bool H.out.symm, rfl⟩
  · have da : decide (v < 55296) = false := by simp; omega
    by_cases b : 57343 < v
    · have H : Hid (decide (okR v) = true) := decide_eq_true ⟨h0, h1, by omega⟩
      clear a
      go_enter Try.func32, Try.ntmps32
      go_wp2
      go_ret
      exact ⟨ret_bool H.out.symm, rfl⟩
    · have db : decide (57343 < v) = false := by simp; omega
      have H : Hid (decide (okR v) = false) := decide_eq_false (fun h => h.2.2 ⟨by omega, by omega⟩)
      clear a b
      go_enter Try.func32, Try.ntmps32
      go_wp2
      go_ret
      exact ⟨ret_bool H.out.symm, rfl⟩
theorem is_rune (v : Int) (w : World) : Calls Try.prog 23 #[.int .i64 v] w fun e w' => e = .returned (.bool (decide (okR v))) ∧ Still w w' := by
  by_cases a : v < 0
  · have H : Hid (decide (okR v) = false) := decide_eq_false (fun h => by have := h.1; omega)
    have d0 : decide (0 ≤ v) = false := by simp; omega
    clear a
    go_enter Try.func23, Try.ntmps23
    go_wp2_with fail
    go_ret
    exact ⟨ret_bool H.out.symm, .same⟩
  · have d0 : decide (0 ≤ v) = true := by simp; omega
    by_cases b : 1114111 < v
    · have H : Hid (decide (okR v) = false) := decide_eq_false (fun h => by have := h.2.1; omega)
      have d1 : decide (v ≤ 1114111) = false := by simp; omega
      clear a b
      go_enter Try.func23, Try.ntmps23
      go_wp2_with fail
      go_ret
      exact ⟨ret_bool H.out.symm, .same⟩
    · have d1 : decide (v ≤ 1114111) = true := by simp; omega
      have hw : IntKind.i32.wrap v = v := by rw [IntKind.wrap_i32]; omega
      have HV := Lib.hid (valid_rune v (by omega) (by omega))
      revert HV
      generalize hx : decide (okR v) = x
      intro HV
      clear hx a b
      go_enter Try.func23, Try.ntmps23
      go_wp2_with (go_at_call 32; refine (HV.out _).mono ?_; rintro e w1 ⟨rfl, rfl⟩)
      go_ret
      exact ⟨rfl, .same⟩
theorem newB_own {w : World} {B : Nat} {v : Value} {done : List Int} (h : OwnB w B v done) (l : List Int) : OwnB (newB w l) B v done := World.ownsRow.alloc h _
/-- 'append(s, x...)' of new bytes onto bytes of the call's own. -/
theorem wp_fresh {ops : Array Oper} {rest : List Oper} {o : Oper} {a : Act} {Q : Exit → Act → World → Prop} (w : World) (hgd : o.guard = none) (s x : Operand)
    (ho : o.op = .call { callee := .builtin .append, args := #[s, x], argTypes := #[22, 22] }) (B : Nat) (v : Value) (done : List Int) (y : List Int) (hs : a.eval s = v) (hown : OwnB w B v done)
    (hx : a.eval x = .slice (some ⟨w.heap.size, 0, none⟩) y.length y.length) (hlen : done.length + y.length ≤ 10000000) (hB : B ≤ w.heap.size)
    (h : ∀ v' w', OwnB w' B v' (done ++ y) → Below B w w' → (newB w y).grownBy w' v.ownBlock → wpList Try.prog ops Q rest (a.put o.dst v') w') : wpList Try.prog ops Q (o :: rest) a (newB w y) := by
  obtain ⟨i0, hi, hz0, hz1, hz2⟩ := info_parts byte_info
  have hown' := newB_own hown y
  refine wpList_append_own _ hgd s x 22 ho B 5 i0 (.int .u8 0) 1 1 Try.underlying22 hi hz0 hz1 hz2 rfl (by decide) v _ _ hs hown' ⟨w.heap.size, 0, none⟩ y.length y.length (vb y) hx (by rw [vb_length, Nat.mul_one]) (newB_byt w y).cells (vb_oneCell y) (by simp only [maxLen]; omega) (by omega) (by simp [newB]; omega) ?_
  intro v' w' ho' hg hn
  refine h v' w' ?_ (((Below.refl _ _).alloc hB _).grown hg (by simp; omega) hown'.block) hg
  have ho2 : w'.ownsRow B 5 1 v' (done ++ y).length (vb (done ++ y)) := by simpa [vb] using ho'
  exact ho2
/-- How a number's bytes are laid behind others. -/
def ApEnds (B : Nat) (l : List Int) (w : World) (e : Ending) (w' : World) : Prop := ∃ v', e = .returned v' ∧ OwnB w' B v' l ∧ Below B w w'
theorem append_one (B : Nat) (v : Value) (done : List Int) (r : Int) (h0 : 0 ≤ r) (h1 : r < 128) (w : World) (hown : OwnB w B v done) (hlen : done.length ≤ 1000000) (hB : B ≤ w.heap.size) :
    Calls Try.prog 24 #[v, .int .i32 r] w (ApEnds B (done ++ [r]) w) := by
  have HO := Lib.hid hown
  have d1 : decide (r ≤ 127) = true := by simp; omega
  clear hown
  go_enter Try.func24, Try.ntmps24
  go_wp2_with (at_builtin; refine wp_fresh w rfl (.tmp 8) (.tmp 11) rfl B _ done [r] rfl HO.out rfl (by simp; omega) hB ?_; intro v2 w2 ho2 hb2 _)
  go_ret
  exact ⟨_, rfl, ho2, hb2⟩
theorem append_two (B : Nat) (v : Value) (done : List Int) (r : Int) (h0 : 128 ≤ r) (h1 : r ≤ 2047) (w : World) (hown : OwnB w B v done) (hlen : done.length ≤ 1000000) (hB : B ≤ w.heap.size) :
    Calls Try.prog 33 #[v, .int .i32 r] w (ApEnds B (done ++ [192 + r / 64, 128 + r % 64]) w) := by
  have HO := Lib.hid hown
  clear hown
  go_enter Try.func33, Try.ntmps33
  go_wp2_with (at_builtin; refine wp_fresh w rfl (.tmp 14) (.tmp 23) rfl B _ done [192 + r / 64, 128 + r % 64] rfl HO.out rfl (by simp; omega) hB ?_; intro v2 w2 ho2 hb2 _)
  go_ret
  exact ⟨_, rfl, ho2, hb2⟩
theorem append_three (B : Nat) (v : Value) (done : List Int) (r : Int) (h0 : 2048 ≤ r) (h1 : r ≤ 65535) (hs : r < 55296 ∨ 57343 < r) (w : World) (hown : OwnB w B v done) (hlen : done.length ≤ 1000000) (hB : B ≤ w.heap.size) :
    Calls Try.prog 33 #[v, .int .i32 r] w (ApEnds B (done ++ [224 + r / 4096, 128 + r / 64 % 64, 128 + r % 64]) w) := by
  have HO := Lib.hid hown
  clear hown
  rcases hs with h | h
  · go_enter Try.func33, Try.ntmps33
    go_wp2_with (at_builtin; refine wp_fresh w rfl (.tmp 34) (.tmp 48) rfl B _ done [224 + r / 4096, 128 + r / 64 % 64, 128 + r % 64] rfl HO.out rfl (by simp; omega) hB ?_; intro v2 w2 ho2 hb2 _)
    go_ret
    exact ⟨_, rfl, ho2, hb2⟩
  · go_enter Try.func33, Try.ntmps33
    go_wp2_with (at_builtin; refine wp_fresh w rfl (.tmp 34) (.tmp 48) rfl B _ done [224 + r / 4096, 128 + r / 64 % 64, 128 + r % 64] rfl HO.out rfl (by simp; omega) hB ?_; intro v2 w2 ho2 hb2 _)
    go_ret
    exact ⟨_, rfl, ho2, hb2⟩
theorem append_four (B : Nat) (v : Value) (done : List Int) (r : Int) (h0 : 65536 ≤ r) (h1 : r ≤ 1114111) (w : World) (hown : OwnB w B v done) (hlen : done.length ≤ 1000000) (hB : B ≤ w.heap.size) :
    Calls Try.prog 33 #[v, .int .i32 r] w (ApEnds B (done ++ [240 + r / 262144, 128 + r / 4096 % 64, 128 + r / 64 % 64, 128 + r % 64]) w) := by
  have HO := Lib.hid hown
  clear hown
  go_enter Try.func33, Try.ntmps33
  go_wp2_with (at_builtin; refine wp_fresh w rfl (.tmp 57) (.tmp 76) rfl B _ done [240 + r / 262144, 128 + r / 4096 % 64, 128 + r / 64 % 64, 128 + r % 64] rfl HO.out rfl (by simp; omega) hB ?_; intro v2 w2 ho2 hb2 _)
  go_ret
  exact ⟨_, rfl, ho2, hb2⟩
theorem append_more (B : Nat) (v : Value) (done y : List Int) (r : Int) (h0 : 128 ≤ r) (h1 : r ≤ 1114111) (w : World)
    (h : Calls Try.prog 33 #[v, .int .i32 r] w (ApEnds B (done ++ y) w)) :
    Calls Try.prog 24 #[v, .int .i32 r] w (ApEnds B (done ++ y) w) := by
  have H := Lib.hid h
  have d1 : decide (r ≤ 127) = false := by simp; omega
  clear h
  go_enter Try.func24, Try.ntmps24
  go_wp2_with fail
  refine H.out.mono ?_
  rintro e w2 ⟨v2, rfl, ho, hb⟩
  have HO := Lib.hid ho
  have HB := Lib.hid hb
  clear ho hb
  go_wp2_with fail
  go_ret
  exact ⟨_, rfl, HO.out, HB.out⟩
/-- The library's bytes of a number, behind others. -/
theorem append_any (B : Nat) (v : Value) (done : List Int) (r : Int) (h : okR r) (w : World) (hown : OwnB w B v done) (hlen : done.length ≤ 1000000) (hB : B ≤ w.heap.size) :
    Calls Try.prog 24 #[v, .int .i32 r] w (ApEnds B (done ++ enc r) w) := by
  obtain ⟨h0, h1, h2⟩ := h
  rcases enc_ways r with ⟨a, e⟩ | ⟨a, b, e⟩ | ⟨a, b, e⟩ | ⟨a, e⟩ <;> rw [e]
  · exact append_one B v done r h0 a w hown hlen hB
  · exact append_more B v done _ r a h1 w (append_two B v done r a (by omega) w hown hlen hB)
  · exact append_more B v done _ r (by omega) h1 w (append_three B v done r a (by omega) (by omega) w hown hlen hB)
  · exact append_more B v done _ r (by omega) h1 w (append_four B v done r a h1 w hown hlen hB)
end Go.Proofs.Ytfilcddkcbdbnaa.Utf
