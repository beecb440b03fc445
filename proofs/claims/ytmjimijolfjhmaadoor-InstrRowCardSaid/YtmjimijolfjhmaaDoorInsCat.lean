/- slices.Grow of nil, slices.Concat of two lists of bytes: the library's own text, walked. -/
import Derived.Test.YtmjimijolfjhmaaDoorLebTwo
import Derived.Test.YtmjimijolfjhmaaDoorLebOne
import Derived.Test.YtmjimijolfjhmaaDoorStabAll
import Derived.Lib.AppendZerosOnto
import Derived.Lib.SliceRun
namespace Go.Proofs.YtmjimijolfjhmaaDoor.Typ
open Go.RowKit
set_option maxRecDepth 100000
set_option maxHeartbeats 1000000

theorem run_zeros (w : World) (ty : TypeId) (n : Nat) (h0 : 0 < n) (hn : n ≤ 10000000) :
    (Builtin.append_ #[22, 3] ty #[.slice none 0 0, .int .i64 (n : Int)]).run Tryd.prog w =
      .ok (.slice (some ⟨w.heap.size, 0, none⟩) n (grownCap w n 0 5)) (w.drew.alloc (.cells ((#[] : Array Value) ++ Builtin.zeroCells (Value.int .u8 0).cells n ++ Builtin.zeroCells (Value.int .u8 0).cells (grownCap w n 0 5 - n)) 5)) := by
  obtain ⟨i0, hi, hz0, hz1, hz2⟩ := info_parts byte_info
  have h := Lib.run_append_grow_zeros (P := Tryd.prog) w 22 3 ty 5 i0 (.int .u8 0) .i64 .i64 Tryd.underlying22 Tryd.underlying3 hi hz0 none 0 0 [] (run_firstCells_none w.drew i0.size 0 0 0) n h0 (by rw [hz1]; omega) (by omega) (by omega) (by rw [hz2]; omega) (by rw [hz2]; exact growslice_fits (by omega) (by omega))
  rw [Nat.zero_add] at h
  exact h
/-- New bytes, none, with room. -/
theorem own_room (w : World) (c : Nat) (cs : Array Value) (hsz : cs.size = c) (hc : c ≤ maxLen) : Leb.Own (w.alloc (.cells cs 5)) w.heap.size (.slice (some ⟨w.heap.size, 0, none⟩) 0 c) [] :=
  ⟨⟨_, _, rfl⟩, by simp [Leb.vb], .inr ⟨_, _, _, rfl, Nat.le_refl _, heap_alloc_new w _, Nat.zero_le _, hc, by omega, by simp [Leb.vb]⟩⟩
theorem grow_nil (n : Nat) (w : World) (h0 : 0 < n) (hn : n ≤ 1000000) : Calls Tryd.prog 53 #[.slice none 0 0, .int .i64 (n : Int)] w (Leb.Laid w []) := by
  have hz := run_zeros w
  have hge := grownCap_ge w n 0 5
  have hm := grownCap_le_maxLen w n 0 5 (by unfold maxLen; omega)
  have t0 : decide ((n : Int) < 0) = false := by simp
  have t1 : decide ((0 : Int) < (n : Int)) = true := by simp; omega
  have HZ := Lib.hid (fun ty => run_zeros w ty n h0 (by omega))
  clear hz
  revert HZ
  generalize hG : grownCap w n 0 5 = G at *
  intro HZ
  clear hG
  go_enter Tryd.func53, Tryd.ntmps53
  go_wp2_with (at_builtin; refine Lib.wpList_append_run _ rfl _ _ _ _ rfl _ _ rfl rfl _ _ (HZ.out _) ?_)
  go_ret
  refine ⟨_, rfl, ?_, ((Below.refl _ _).alloc (Nat.le_refl _) _).drew⟩
  exact own_room w G _ (by simp [Builtin.zeroCells]; omega) hm
theorem concat_any (g : Nat) (A1 A2 : Option Addr) (c1 c2 : Nat) (l1 l2 : List Int) (w : World) (hX : w.cell? ⟨g, 0, none⟩ = some (.slice A1 l1.length c1)) (hY : w.cell? ⟨g, 1, none⟩ = some (.slice A2 l2.length c2)) (hg : g < w.heap.size)
    (h1 : Leb.Byt w w.heap.size A1 l1) (h2 : Leb.Byt w w.heap.size A2 l2) (hl1 : l1.length ≤ 100000) (hl2 : l2.length ≤ 100000) (hpos : 0 < l1.length + l2.length) :
    Calls Tryd.prog 26 #[.slice (some ⟨g, 0, none⟩) 2 2] w (Leb.Laid w (l1 ++ l2)) := by
  have H1 := Lib.hid h1
  have H2 := Lib.hid h2
  have HG := Lib.hid (grow_nil (l1.length + l2.length) w hpos (by omega))
  have HX := Lib.hid (fun W (hW : Below w.heap.size w W) => (hW.cell (p := ⟨g, 0, none⟩) hg).trans hX)
  have HY := Lib.hid (fun W (hW : Below w.heap.size w W) => (hW.cell (p := ⟨g, 1, none⟩) hg).trans hY)
  have t0 : decide ((l1.length : Int) < 0) = false := by simp
  have t1 : decide ((l1.length : Int) + (l2.length : Int) < 0) = false := by simp; omega
  have hw : IntKind.i64.wrap ((l1.length : Int) + (l2.length : Int)) = (l1.length : Int) + (l2.length : Int) := IntWalk.i64_in _ (by omega)
  clear h1 h2
  go_enter Tryd.func26, Tryd.ntmps26
  go_wp2_with fail
  go_loop [3, 11] (fun s i => (i = .int .i64 0 ∧ s = .int .i64 0) ∨ (i = .int .i64 1 ∧ s = .int .i64 (l1.length : Int)) ∨ (i = .int .i64 2 ∧ s = .int .i64 ((l1.length : Int) + (l2.length : Int)))) (fun _ i => 2 - (intOf i).toNat)
  case atStart => exact .inl ⟨rfl, rfl⟩
  case round =>
    rcases hrel with ⟨rfl, rfl⟩ | ⟨rfl, rfl⟩ | ⟨rfl, rfl⟩
    · go_wp2_with fail
      go_round
      case rel => exact .inr (.inl ⟨rfl, rfl⟩)
      case measure => simp [intOf]
    · go_wp2_with fail
      go_round
      case rel => exact .inr (.inr ⟨rfl, rfl⟩)
      case measure => simp [intOf]
    · clear hX hY
      go_wp2_with fail
      refine HG.out.mono ?_
      rintro e w1 ⟨v1, rfl, ho1, hb1⟩
      have HO1 := Lib.hid ho1
      have HB1 := Lib.hid hb1
      clear ho1 hb1
      go_wp2_with fail
      go_loopw [6, 27] (fun v i wr => Below w.heap.size w wr ∧ ((i = .int .i64 0 ∧ Leb.Own wr w.heap.size v []) ∨ (i = .int .i64 1 ∧ Leb.Own wr w.heap.size v l1) ∨ (i = .int .i64 2 ∧ Leb.Own wr w.heap.size v (l1 ++ l2)))) (fun _ i _ => 2 - (intOf i).toNat)
      case atStart => exact ⟨HB1.out, .inl ⟨rfl, HO1.out⟩⟩
      case round =>
        obtain ⟨hbel, hrel⟩ := hrel
        have hX := HX.out _ hbel
        have hY := HY.out _ hbel
        have HBel := Lib.hid hbel
        have hsz : w.heap.size ≤ wr.heap.size := hbel.size
        clear hbel
        rcases hrel with ⟨rfl, ho⟩ | ⟨rfl, ho⟩ | ⟨rfl, ho⟩
        · have HO := Lib.hid ho
          clear ho
          go_wp2_with (at_builtin; refine Leb.wp_bytes wr rfl (.tmp 31) (.tmp 32) rfl w.heap.size w.heap.size _ [] l1 rfl HO.out A1 c1 rfl (H1.out.keep HBel.out) (by simp; omega) hsz ?_; intro v2 w2 ho2 hb2)
          go_roundw
          case rel => exact ⟨HBel.out.trans hb2, .inr (.inl ⟨rfl, ho2⟩)⟩
          case measure => simp [intOf]
        · have HO := Lib.hid ho
          clear ho
          go_wp2_with (at_builtin; refine Leb.wp_bytes wr rfl (.tmp 31) (.tmp 32) rfl w.heap.size w.heap.size _ l1 l2 rfl HO.out A2 c2 rfl (H2.out.keep HBel.out) (by omega) hsz ?_; intro v2 w2 ho2 hb2)
          go_roundw
          case rel => exact ⟨HBel.out.trans hb2, .inr (.inr ⟨rfl, ho2⟩)⟩
          case measure => simp [intOf]
        · have HO := Lib.hid ho
          clear ho
          go_wp2_with fail
          go_ret
          exact ⟨_, rfl, HO.out, HBel.out⟩
end Go.Proofs.YtmjimijolfjhmaaDoor.Typ
