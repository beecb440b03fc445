/- The document's own functions that lay a number in bytes, walked: they hand back the same bytes as the program's. -/
import Derived.Test.YtnminpbnlcgblaaLebUS
namespace Go.Proofs.Ytnminpbnlcgblaa.Leb
open Go.RowKit

theorem run_bytes (w : World) (ty : TypeId) (B B' : Nat) (v : Value) (done l : List Int) (hown : Own w B v done) (A : Option Addr) (c : Nat) (hA : Byt w B' A l) (hlen : done.length + l.length ≤ 10000000) (hB : B ≤ w.heap.size) :
    ∃ v' w', (Builtin.append_ #[22, 22] ty #[v, .slice A l.length c]).run Try.prog w = .ok v' w' ∧ Own w' B v' (done ++ l) ∧ Below B w w' := by
  obtain ⟨i0, hi, hz0, hz1, hz2⟩ := info_parts byte_info
  rcases A with _ | ad
  · have hl : l = [] := by
      rcases l with _ | ⟨x, l⟩
      · rfl
      · obtain ⟨ad, h, _⟩ := hA (by simp)
        cases h
    subst hl
    refine ⟨v, w, ?_, by simpa using hown, Below.refl _ _⟩
    have hu := Try.underlying22
    obtain ⟨⟨g, cp, rfl⟩, h1, h2⟩ := hown
    rcases h2 with ⟨e, _⟩ | ⟨g', cp', cur, e, _, _, hn, _⟩
    · cases e
    · injection e with _ _ e
      subst e
      simp [Builtin.append_, run_underlying hu, sizeOf, typeInfo, hi, Builtin.lenOf, Builtin.firstCells, hn, storeCells]
  · have hcells : ∀ j u, (vb l)[j]? = some u → w.cell? (ad.add j) = some u := fun j u hu => by
      have hl : 0 < l.length := by
        rcases l with _ | ⟨x, l⟩
        · simp [vb] at hu
        · simp
      obtain ⟨ad', h, _, hc⟩ := hA hl
      injection h with h
      subst h
      exact hc j u hu
    obtain ⟨v', w', hr, h1, h2, h3⟩ := run_append_own (P := Try.prog) w B 22 ty 5 i0 (.int .u8 0) 1 1 Try.underlying22 hi hz0 hz1 hz2 rfl (by decide) v _ _ hown.2 ad l.length c (vb l) (by rw [vb_length, Nat.mul_one]) hcells (vb_one l) (by simp only [maxLen]; omega) (by omega) hB
    have h1' : w'.ownsRow B 5 1 v' (done ++ l).length (vb (done ++ l)) := by rw [vb_append, List.length_append]; exact h1
    refine ⟨v', w', hr, ⟨?_, h1'⟩, (Below.refl _ _).grown h2 hB hown.block⟩
    rcases h1'.2 with ⟨e, _⟩ | ⟨g, c', cur, e, _⟩
    · obtain ⟨⟨g, cp, hv⟩, _⟩ := hown
      rw [(h3.1 e).1] at hv
      cases hv
    · exact ⟨g, c', e⟩

/-- 'append(s, x...)' on bytes of the call's own. -/
theorem wp_bytes {ops : Array Oper} {rest : List Oper} {o : Oper} {a : Act} {Q : Exit → Act → World → Prop} (w : World) (hgd : o.guard = none) (s x : Operand)
    (ho : o.op = .call { callee := .builtin .append, args := #[s, x], argTypes := #[22, 22] }) (B B' : Nat) (v : Value) (done l : List Int) (hs : a.eval s = v) (hown : Own w B v done)
    (A : Option Addr) (c : Nat) (hx : a.eval x = .slice A l.length c) (hA : Byt w B' A l) (hlen : done.length + l.length ≤ 10000000) (hB : B ≤ w.heap.size)
    (h : ∀ v' w', Own w' B v' (done ++ l) → Below B w w' → wpList Try.prog ops Q rest (a.put o.dst v') w') : wpList Try.prog ops Q (o :: rest) a w := by
  refine wpList_plain hgd fun K hK => ?_
  obtain ⟨v', w', hr, h1, h2⟩ := run_bytes w o.type B B' v done l hown A c hA hlen hB
  unfold Oper.wp
  simp only [execOp, ho, resolve, invoke, builtin, Sem.run_bind, Sem.run_pure, Result.andThen_ok, List.map_toArray, List.map_cons, List.map_nil, hs, hx, hr]
  exact hK _ _ (h v' w' h1 h2)

/-- New bytes, none. -/
theorem own_none (w : World) : Own (w.alloc (.cells #[] 5)) w.heap.size (.slice (some ⟨w.heap.size, 0, none⟩) 0 0) [] :=
  ⟨⟨_, _, rfl⟩, by simp [vb], .inr ⟨_, _, _, rfl, Nat.le_refl _, heap_alloc_new w _, Nat.le_refl _, by simp [maxLen], by simp, by simp [vb]⟩⟩

set_option maxHeartbeats 400000 in
set_option maxRecDepth 100000 in
theorem refU_any (A : Option Addr) (c v : Nat) (l : List Int) (w : World) (hA : Byt w w.heap.size A l) (hl : l.length ≤ 1000000) (hv : v < 18446744073709551616) :
    Calls Try.prog 36 #[.slice A l.length c, .int .u64 (v : Int)] w (Laid w (l ++ uB v)) := by
  have hlen := lenU_ten hv
  have hub := uB_len v
  have hall : (l ++ uB v).length ≤ 1000010 := by rw [List.length_append, hub]; omega
  clear hub
  have HALL := Lib.hid hall
  have HA := Lib.hid (hA.keep ((Below.refl _ _).alloc (Nat.le_refl _) (.cells #[] 5)))
  clear hall hA
  go_enter Try.func36, Try.ntmps36
  go_wp2_with (at_builtin; refine wp_bytes _ rfl (.tmp 6) (.tmp 7) rfl w.heap.size w.heap.size _ [] l rfl (own_none w) A c rfl HA.out (by simp; omega) (by simp) ?_; intro v1 w1 hown1 hb1)
  have hb1 := ((Below.refl _ _).alloc (Nat.le_refl _) (.cells #[] 5)).trans hb1
  rw [List.nil_append] at hown1
  have hB1 := hb1.size
  go_loopw [1, 5] (fun x s wr => ∃ u : Nat, x = .int .u64 (u : Int) ∧ u ≤ v ∧ Mid w w.heap.size (l ++ uB v) (uB u) s wr) (fun x _ _ => (intOf x).toNat)
  case atStart => exact ⟨v, rfl, Nat.le_refl _, l, rfl, hown1, hb1, hB1⟩
  case round =>
    obtain ⟨u, rfl, huv, done, hd, hown, hb, hB⟩ := hrel
    have hdl : done.length ≤ 1000010 := by have := HALL.out; rw [← hd, List.length_append] at this; omega
    have HD := Lib.hid hd
    have HO := Lib.hid hown
    clear hd hown
    by_cases hlt : u < 128
    · go_wp2_with (at_builtin; refine wp_byte wr rfl (.tmp 20) (.tmp 23) rfl w.heap.size _ done (u : Int) rfl HO.out rfl (by omega) hB ?_; intro v2 w2 ho2 hb2)
      go_ret
      exact Mid.end_ (by have := HD.out; rw [uB_small hlt] at this; exact this) hb ho2 hb2
    · go_wp2_with (at_builtin; refine wp_byte wr rfl (.tmp 11) (.tmp 16) rfl w.heap.size _ done (128 + (u : Int) % 128) rfl HO.out rfl (by omega) hB ?_; intro v2 w2 ho2 hb2)
      go_roundw
      case rel => exact ⟨u / 128, by go_num, by omega, Mid.step (by have := HD.out; rw [uB_great (by omega), Int.add_comm] at this; exact this) hb hB ho2 hb2⟩
      case measure => simp [intOf]; omega
end Go.Proofs.Ytnminpbnlcgblaa.Leb
