/- TypAt, TypVals, TypFunc, TypCat, TypSame. -/
import Derived.Test.YtffegkjlgeblbaaGreatDoorLebTwo
import Derived.Lib.AppendZerosOnto
import Derived.Lib.SliceRun
import Derived.Lib.Bytes
section
/- The byte at a place, and a value's type there: by the program and by the document. -/
namespace Go.Proofs.YtffegkjlgeblbaaGreatDoor.Typ
open Go.RowKit
set_option maxRecDepth 100000
set_option maxHeartbeats 1000000

def bt (l : List Int) (at_ : Int) : Int × Int := if at_ < 0 ∨ (l.length : Int) < at_ then (0, 1) else if at_ = (l.length : Int) then (0, 2) else (l.getD at_.toNat 0, 0)
theorem bt_bad {l : List Int} {at_ : Int} (h : at_ < 0 ∨ (l.length : Int) < at_) : bt l at_ = (0, 1) := if_pos h
theorem bt_end {l : List Int} {at_ : Int} (h : at_ = (l.length : Int)) : bt l at_ = (0, 2) := (if_neg (by omega)).trans (if_pos h)
theorem bt_in {l : List Int} {k : Nat} (h : k < l.length) : bt l (k : Int) = (l.getD k 0, 0) := by
  unfold bt
  rw [if_neg (by omega), if_neg (by omega), Int.toNat_natCast]
def BtTold (x : Int × Int) (w : World) (e : Ending) (w' : World) : Prop := e = .returned (.tuple #[.int .u8 x.1, .int .i64 x.2]) ∧ w = w'
theorem byteAt_any (v : Value) (l : List Int) (at_ : Int) (w : World) (hv : Sl w v l) (_hl : l.length ≤ 9223372036854775806) : Calls Tryz.prog 214 #[v, .int .i64 at_] w (BtTold (bt l at_) w) := by
  obtain ⟨A, c, rfl, h2, h3, h4⟩ := hv
  by_cases ha : at_ < 0
  · rw [bt_bad (.inl ha)]
    have t0 : decide (at_ < 0) = true := decide_eq_true ha
    clear h4
    go_enter Tryz.func214, Tryz.ntmps214
    go_wp2
    go_ret2
    exact ⟨rfl, rfl⟩
  · have t0 : decide (at_ < 0) = false := decide_eq_false ha
    by_cases hb : (l.length : Int) < at_
    · rw [bt_bad (.inr hb)]
      have t1 : decide ((l.length : Int) < at_) = true := decide_eq_true hb
      clear h4
      go_enter Tryz.func214, Tryz.ntmps214
      go_wp2
      go_ret2
      exact ⟨rfl, rfl⟩
    · have t1 : decide ((l.length : Int) < at_) = false := decide_eq_false hb
      by_cases hc : at_ = (l.length : Int)
      · subst hc
        rw [bt_end rfl]
        clear h4 ha hb
        go_enter Tryz.func214, Tryz.ntmps214
        go_wp2
        go_ret2
        exact ⟨rfl, rfl⟩
      · obtain ⟨k, rfl⟩ := Int.eq_ofNat_of_zero_le (show 0 ≤ at_ by omega)
        have hk : k < l.length := by omega
        have t2 : ((k : Int) == (l.length : Int)) = false := by simp; omega
        obtain ⟨g, off, rfl, hB⟩ := h4 (fun e => by rw [e] at hk; simp at hk)
        have hcell := hB.2.2 k hk
        rw [bt_in hk]
        generalize l.getD k 0 = y at *
        clear hB ha hb hc h4
        go_enter Tryz.func214, Tryz.ntmps214
        go_wp2
        go_ret2
        exact ⟨rfl, rfl⟩
def isV (c : Int) : Bool := decide (c = 127 ∨ c = 126)
theorem isV_no {c : Int} (h : ¬ (c = 127 ∨ c = 126)) : isV c = false := decide_eq_false h
theorem isVal_any (c : Int) (w : World) : Calls Tryz.prog 241 #[.int .u8 c] w fun e w' => e = .returned (.bool (isV c)) ∧ w = w' := by
  by_cases h1 : c = 127
  · subst h1
    go_enter Tryz.func241, Tryz.ntmps241
    go_wp2
    go_ret
    exact ⟨rfl, rfl⟩
  · have t1 : (c == 127) = false := by simpa using h1
    by_cases h2 : c = 126
    · subst h2
      go_enter Tryz.func241, Tryz.ntmps241
      go_wp2
      go_ret
      exact ⟨rfl, rfl⟩
    · have t2 : (c == 126) = false := by simpa using h2
      have H := Lib.hid (isV_no (c := c) (by omega))
      clear h1 h2
      go_enter Tryz.func241, Tryz.ntmps241
      go_wp2
      go_ret
      rw [H.out]
      exact ⟨rfl, rfl⟩
def vl (l : List Int) (at_ : Int) : Int × Int × Int := if (bt l at_).2 ≠ 0 then (0, 0, (bt l at_).2) else bif isV (bt l at_).1 then ((bt l at_).1, at_ + 1, 0) else (0, 0, 3)
theorem vl_err {l : List Int} {at_ : Int} (h : (bt l at_).2 ≠ 0) : vl l at_ = (0, 0, (bt l at_).2) := if_pos h
theorem vl_in {l : List Int} {k : Nat} (h : k < l.length) : vl l (k : Int) = bif isV (l.getD k 0) then (l.getD k 0, (k : Int) + 1, 0) else (0, 0, 3) := by
  unfold vl
  rw [bt_in h]
  exact if_neg (by simp)
def VlTold (x : Int × Int × Int) (w : World) (e : Ending) (w' : World) : Prop := e = .returned (.tuple #[.int .u8 x.1, .int .i64 x.2.1, .int .i64 x.2.2]) ∧ w = w'
theorem bt_ways (l : List Int) (at_ : Int) : ((bt l at_).1 = 0 ∧ ((bt l at_).2 = 1 ∨ (bt l at_).2 = 2)) ∨ (∃ k : Nat, at_ = (k : Int) ∧ k < l.length ∧ bt l at_ = (l.getD k 0, 0)) := by
  by_cases h1 : at_ < 0 ∨ (l.length : Int) < at_
  · rw [bt_bad h1]; exact .inl ⟨rfl, .inl rfl⟩
  · by_cases h2 : at_ = (l.length : Int)
    · rw [bt_end h2]; exact .inl ⟨rfl, .inr rfl⟩
    · obtain ⟨k, rfl⟩ := Int.eq_ofNat_of_zero_le (show 0 ≤ at_ by omega)
      exact .inr ⟨k, rfl, by omega, bt_in (by omega)⟩
theorem val_any (v : Value) (l : List Int) (at_ : Int) (w : World) (hv : Sl w v l) (hl : l.length ≤ 1000000) : Calls Tryz.prog 217 #[v, .int .i64 at_] w (VlTold (vl l at_) w) := by
  have HB := Lib.hid (byteAt_any v l at_ w hv (by omega))
  rcases bt_ways l at_ with ⟨_, h⟩ | ⟨k, rfl, hk, hb⟩
  · have hx := vl_err (l := l) (at_ := at_) (by omega)
    rw [hx]
    generalize hE : (bt l at_).2 = E at *
    have HE := Lib.hid hE
    have t1 : (E != 0) = true := by have : E ≠ 0 := by omega
                                    simpa using this
    clear hE hx h hv hl
    go_enter Tryz.func217, Tryz.ntmps217
    go_wp2_with fail
    refine HB.out.mono ?_
    rintro e w1 ⟨rfl, rfl⟩
    rw [HE.out]
    go_wp2_with fail
    go_ret3
    exact ⟨rfl, rfl⟩
  · rw [vl_in hk]
    rw [hb] at HB
    have hw : IntKind.i64.wrap ((k : Int) + 1) = (k : Int) + 1 := IntWalk.i64_in _ (by omega)
    revert HB
    generalize l.getD k 0 = c
    intro HB
    cases hc : isV c with
    | true =>
      have HV := Lib.hid (isVal_any c w)
      rw [hc] at HV
      clear hb hc hv
      go_enter Tryz.func217, Tryz.ntmps217
      go_wp2_with fail
      refine HB.out.mono ?_
      rintro e w1 ⟨rfl, rfl⟩
      go_wp2_with fail
      refine HV.out.mono ?_
      rintro e w2 ⟨rfl, rfl⟩
      go_wp2_with fail
      go_ret3
      exact ⟨rfl, rfl⟩
    | false =>
      have HV := Lib.hid (isVal_any c w)
      rw [hc] at HV
      clear hb hc hv
      go_enter Tryz.func217, Tryz.ntmps217
      go_wp2_with fail
      refine HB.out.mono ?_
      rintro e w1 ⟨rfl, rfl⟩
      go_wp2_with fail
      refine HV.out.mono ?_
      rintro e w2 ⟨rfl, rfl⟩
      go_wp2_with fail
      go_ret3
      exact ⟨rfl, rfl⟩
end Go.Proofs.YtffegkjlgeblbaaGreatDoor.Typ
end

section
/- Values' types behind how many they are: by the program and by the document. -/
namespace Go.Proofs.YtffegkjlgeblbaaGreatDoor.Typ
open Go.RowKit
set_option maxRecDepth 100000
set_option maxHeartbeats 1000000

def vbad : List Int → Nat → Int
  | _, 0 => 0
  | [], _ + 1 => 2
  | c :: r, n + 1 => bif isV c then vbad r n else 3
theorem drop_cons {l : List Int} {k : Nat} (h : k < l.length) : l.drop k = l.getD k 0 :: l.drop (k + 1) := by
  rw [List.drop_eq_getElem_cons h]
  simp [h]
theorem vbad_mk : ∀ (n : Nat) (l : List Int), n ≤ l.length → (∀ x ∈ l.take n, isV x = true) → vbad l n = 0
  | 0, l, _, _ => by cases l <;> rfl
  | n + 1, [], h, _ => by simp at h
  | n + 1, c :: r, h, hv => by
    show (bif isV c then vbad r n else 3) = 0
    rw [hv c (by simp)]
    exact vbad_mk n r (by simpa using h) fun x hx => hv x (by simp [hx])
def vsN (l : List Int) (p n : Nat) (M : Int) : List Int × Int × Int := if M < (n : Int) then ([], 0, 4) else if vbad (l.drop p) n = 0 then ((l.drop p).take n, ((p + n : Nat) : Int), 0) else ([], 0, vbad (l.drop p) n)
def vs (l : List Int) (k : Nat) (M : Int) : List Int × Int × Int := match Leb.rdl Leb.fitU 32 (l.drop k) 0 0 with
  | .ok n m => vsN l (k + m / 7) n M
  | .short => ([], 0, 2)
  | .form => ([], 0, 3)
end Go.Proofs.YtffegkjlgeblbaaGreatDoor.Typ
end

section
/- A function's type at a place: by the program and by the document. -/
namespace Go.Proofs.YtffegkjlgeblbaaGreatDoor.Typ
open Go.RowKit
set_option maxRecDepth 100000
set_option maxHeartbeats 1000000

theorem bcell {W w1 : World} (hb : Below W.heap.size W w1) : (∀ b o, b < W.heap.size → w1.cell? ⟨b, o, none⟩ = W.cell? ⟨b, o, none⟩) ∧ (∀ b o, b < W.heap.size → w1.frozen? ⟨b, o, none⟩ = W.frozen? ⟨b, o, none⟩) :=
  ⟨fun b o h => hb.cell (p := ⟨b, o, none⟩) h, fun b o h => hb.frozen (p := ⟨b, o, none⟩) h⟩
theorem OwnB.base {w : World} {B B' : Nat} {v : Value} {l : List Int} (h : OwnB w B v l) (hB : B' ≤ B) : OwnB w B' v l := by
  refine ⟨h.1, ?_⟩
  rcases h.2 with h0 | ⟨g, cap, cur, hv, hb, rest⟩
  · exact .inl h0
  · exact .inr ⟨g, cap, cur, hv, Nat.le_trans hB hb, rest⟩
theorem two_cells {w w1 : World} {x y : Value} {t : TypeId} (hb : Below (w.alloc (.cells #[x, y] t)).heap.size (w.alloc (.cells #[x, y] t)) w1) :
    w1.cell? ⟨w.heap.size, 0, none⟩ = some x ∧ w1.cell? ⟨w.heap.size, 1, none⟩ = some y ∧ w1.frozen? ⟨w.heap.size, 0, none⟩ = false ∧ w1.frozen? ⟨w.heap.size, 1, none⟩ = false ∧ w.heap.size < w1.heap.size ∧ Below w.heap.size w w1 := by
  obtain ⟨hc, hf⟩ := bcell hb
  have hs := hb.size
  refine ⟨?_, ?_, ?_, ?_, by simp at hs; omega, ((Below.refl _ _).alloc (Nat.le_refl _) _).trans (hb.mono (by simp))⟩
  · rw [hc _ _ (by simp)]; simp
  · rw [hc _ _ (by simp)]; simp
  · rw [hf _ _ (by simp)]; simp
  · rw [hf _ _ (by simp)]; simp
def fn2 (x : List Int) (r : List Int × Int × Int) : List Int × List Int × Int × Int := if r.2.2 ≠ 0 then ([], [], 0, r.2.2) else (x, r.1, r.2.1, 0)
def fn1 (l : List Int) (r : List Int × Int × Int) : List Int × List Int × Int × Int := if r.2.2 ≠ 0 then ([], [], 0, r.2.2) else fn2 r.1 (vs l r.2.1.toNat 1)
def fn (l : List Int) (at_ : Int) : List Int × List Int × Int × Int := if (bt l at_).2 ≠ 0 then ([], [], 0, (bt l at_).2) else if (bt l at_).1 ≠ 96 then ([], [], 0, 3) else fn1 l (vs l (at_.toNat + 1) 16)
theorem rdl_one {fit : Int → Nat → Bool} {bits : Nat} : ∀ (l : List Int) (lo acc v m : Nat), Leb.rdl fit bits l lo acc = .ok v m → lo + 7 ≤ m
  | [], _, _, _, _, h => by cases h
  | c :: r, lo, acc, v, m, h => by
    rw [Leb.rdl] at h
    split at h
    · cases h
    · split at h
      · injection h with _ h
        omega
      · have := rdl_one r (lo + 7) _ v m h
        omega
end Go.Proofs.YtffegkjlgeblbaaGreatDoor.Typ
end

section
/- slices.Grow of nil, slices.Concat of two lists of bytes: the library's own text, walked. -/
namespace Go.Proofs.YtffegkjlgeblbaaGreatDoor.Typ
open Go.RowKit
set_option maxRecDepth 100000
set_option maxHeartbeats 1000000

theorem run_zeros (w : World) (ty : TypeId) (n : Nat) (h0 : 0 < n) (hn : n ≤ 10000000) :
    (Builtin.append_ #[22, 3] ty #[.slice none 0 0, .int .i64 (n : Int)]).run Tryz.prog w =
      .ok (.slice (some ⟨w.heap.size, 0, none⟩) n (grownCap w n 0 5)) (w.drew.alloc (.cells ((#[] : Array Value) ++ Builtin.zeroCells (Value.int .u8 0).cells n ++ Builtin.zeroCells (Value.int .u8 0).cells (grownCap w n 0 5 - n)) 5)) := by
  obtain ⟨i0, hi, hz0, hz1, hz2⟩ := info_parts byte_info
  have h := Lib.run_append_grow_zeros (P := Tryz.prog) w 22 3 ty 5 i0 (.int .u8 0) .i64 .i64 Tryz.underlying22 Tryz.underlying3 hi hz0 none 0 0 [] (run_firstCells_none w.drew i0.size 0 0 0) n h0 (by rw [hz1]; omega) (by omega) (by omega) (by rw [hz2]; omega) (by rw [hz2]; exact growslice_fits (by omega) (by omega))
  rw [Nat.zero_add] at h
  exact h
theorem own_room (w : World) (c : Nat) (cs : Array Value) (hsz : cs.size = c) (hc : c ≤ maxLen) : Leb.Own (w.alloc (.cells cs 5)) w.heap.size (.slice (some ⟨w.heap.size, 0, none⟩) 0 c) [] :=
  ⟨⟨_, _, rfl⟩, by simp [Leb.vb], .inr ⟨_, _, _, rfl, Nat.le_refl _, heap_alloc_new w _, Nat.zero_le _, hc, by omega, by simp [Leb.vb]⟩⟩
theorem grow_nil (n : Nat) (w : World) (h0 : 0 < n) (hn : n ≤ 1000000) : Calls Tryz.prog 250 #[.slice none 0 0, .int .i64 (n : Int)] w (Leb.Laid w []) := by
  have hz := run_zeros w
  have hge := grownCap_ge w n 0 5
  have hm := grownCap_le_maxLen w n 0 5 (by unfold maxLen; omega)
  have t0 : decide ((n : Int) < 0) = false := by simp
  have t1 : decide ((0 : Int) < (n : Int)) = true := by simp; omega
  have HZ := Lib.hid (fun ty => run_zeros w ty n h0 (by omega))
  clear hz
  revert HZ
  generalize hG : grownCap w n 0 5 = G at *
  intro HZ
  clear hG
  go_enter Tryz.func250, Tryz.ntmps250
  go_wp2_with (at_builtin; refine Lib.wpList_append_run _ rfl _ _ _ _ rfl _ _ rfl rfl _ _ (HZ.out _) ?_)
  go_ret
  refine ⟨_, rfl, ?_, ((Below.refl _ _).alloc (Nat.le_refl _) _).drew⟩
  exact own_room w G _ (by simp [Builtin.zeroCells]; omega) hm
theorem concat_any (g : Nat) (A1 A2 : Option Addr) (c1 c2 : Nat) (l1 l2 : List Int) (w : World) (hX : w.cell? ⟨g, 0, none⟩ = some (.slice A1 l1.length c1)) (hY : w.cell? ⟨g, 1, none⟩ = some (.slice A2 l2.length c2)) (hg : g < w.heap.size)
    (h1 : Leb.Byt w w.heap.size A1 l1) (h2 : Leb.Byt w w.heap.size A2 l2) (hl1 : l1.length ≤ 100000) (hl2 : l2.length ≤ 100000) (hpos : 0 < l1.length + l2.length) :
    Calls Tryz.prog 226 #[.slice (some ⟨g, 0, none⟩) 2 2] w (Leb.Laid w (l1 ++ l2)) := by
  have H1 := Lib.hid h1
  have H2 := Lib.hid h2
  have HG := Lib.hid (grow_nil (l1.length + l2.length) w hpos (by omega))
  have HX := Lib.hid (fun W (hW : Below w.heap.size w W) => (hW.cell (p := ⟨g, 0, none⟩) hg).trans hX)
  have HY := Lib.hid (fun W (hW : Below w.heap.size w W) => (hW.cell (p := ⟨g, 1, none⟩) hg).trans hY)
  have t0 : decide ((l1.length : Int) < 0) = false := by simp
  have t1 : decide ((l1.length : Int) + (l2.length : Int) < 0) = false := by simp; omega
  have hw : IntKind.i64.wrap ((l1.length : Int) + (l2.length : Int)) = (l1.length : Int) + (l2.length : Int) := IntWalk.i64_in _ (by omega)
  clear h1 h2
  go_enter Tryz.func226, Tryz.ntmps226
  go_wp2_with fail
  go_loop [3, 11] (fun s i => (i = .int .i64 0 ∧ s = .int .i64 0) ∨ (i = .int .i64 1 ∧ s = .int .i64 (l1.length : Int)) ∨ (i = .int .i64 2 ∧ s = .int .i64 ((l1.length : Int) + (l2.length : Int)))) (fun _ i => 2 - (intOf i).toNat)
  case atStart => exact .inl ⟨rfl, rfl⟩
  case round =>
    rcases hrel with ⟨rfl, rfl⟩ | ⟨rfl, rfl⟩ | ⟨rfl, rfl⟩
    · go_wp2_with fail
      go_round
      case rel => exact .inr (.inl ⟨rfl, rfl⟩)
      case measure => simp [intOf]
    · go_wp2_with fail
      go_round
      case rel => exact .inr (.inr ⟨rfl, rfl⟩)
      case measure => simp [intOf]
    · clear hX hY
      go_wp2_with fail
      refine HG.out.mono ?_
      rintro e w1 ⟨v1, rfl, ho1, hb1⟩
      have HO1 := Lib.hid ho1
      have HB1 := Lib.hid hb1
      clear ho1 hb1
      go_wp2_with fail
      go_loopw [6, 27] (fun v i wr => Below w.heap.size w wr ∧ ((i = .int .i64 0 ∧ Leb.Own wr w.heap.size v []) ∨ (i = .int .i64 1 ∧ Leb.Own wr w.heap.size v l1) ∨ (i = .int .i64 2 ∧ Leb.Own wr w.heap.size v (l1 ++ l2)))) (fun _ i _ => 2 - (intOf i).toNat)
      case atStart => exact ⟨HB1.out, .inl ⟨rfl, HO1.out⟩⟩
      case round =>
        obtain ⟨hbel, hrel⟩ := hrel
        have hX := HX.out _ hbel
        have hY := HY.out _ hbel
        have HBel := Lib.hid hbel
        have hsz : w.heap.size ≤ wr.heap.size := hbel.size
        clear hbel
        rcases hrel with ⟨rfl, ho⟩ | ⟨rfl, ho⟩ | ⟨rfl, ho⟩
        · have HO := Lib.hid ho
          clear ho
          go_wp2_with (at_builtin; refine Leb.wp_bytes wr rfl (.tmp 31) (.tmp 32) rfl w.heap.size w.heap.size _ [] l1 rfl HO.out A1 c1 rfl (H1.out.keep HBel.out) (by simp; omega) hsz ?_; intro v2 w2 ho2 hb2)
          go_roundw
          case rel => exact ⟨HBel.out.trans hb2, .inr (.inl ⟨rfl, ho2⟩)⟩
          case measure => simp [intOf]
        · have HO := Lib.hid ho
          clear ho
          go_wp2_with (at_builtin; refine Leb.wp_bytes wr rfl (.tmp 31) (.tmp 32) rfl w.heap.size w.heap.size _ l1 l2 rfl HO.out A2 c2 rfl (H2.out.keep HBel.out) (by omega) hsz ?_; intro v2 w2 ho2 hb2)
          go_roundw
          case rel => exact ⟨HBel.out.trans hb2, .inr (.inr ⟨rfl, ho2⟩)⟩
          case measure => simp [intOf]
        · have HO := Lib.hid ho
          clear ho
          go_wp2_with fail
          go_ret
          exact ⟨_, rfl, HO.out, HBel.out⟩
end Go.Proofs.YtffegkjlgeblbaaGreatDoor.Typ
end

section
/- Whether two functions' types are one: by the program and by the document. -/
namespace Go.Proofs.YtffegkjlgeblbaaGreatDoor.Typ
open Go.RowKit
set_option maxRecDepth 100000
set_option maxHeartbeats 1000000

def TxtOf (w : World) (v : Value) (s : ByteArray) : Prop := ∀ W, Below w.heap.size w W → (convert 22 9 v).run Tryz.prog W = .ok (.string s) W
theorem Sl.txtOf {w : World} {v : Value} {l : List Int} (h : Sl w v l) : TxtOf w v (strOfNums l) := fun _ hW => sl_txt (h.keep hW)
def sm (p r q s : ByteArray) : Bool := bif p.toList == q.toList then r.toList == s.toList else false
theorem toldOf_core (A1 A2 : Option Addr) (n1 n2 c1 c2 : Nat) (p r : ByteArray) (w : World) (h1 : TxtOf w (.slice A1 n1 c1) p) (h2 : TxtOf w (.slice A2 n2 c2) r) :
    Calls Tryz.prog 107 #[.agg #[.slice A1 n1 c1, .slice A2 n2 c2]] w fun e w' => e = .returned (.agg #[.string p, .string r]) ∧ Below w.heap.size w w' := by
  have HW : Below w.heap.size w ((w.alloc (.cells #[.slice A1 n1 c1, .slice A2 n2 c2] 95)).alloc (.cells #[.string ⟨#[]⟩, .string ⟨#[]⟩] 163)) := ((Below.refl _ _).alloc (Nat.le_refl _) _).alloc (by simp) _
  have k1 := h1 _ HW
  have k2 := h2 _ HW
  clear h1 h2 HW
  go_enter Tryz.func107, Tryz.ntmps107
  go_wp2_with fail
  refine bodyPost_ret (v := .agg #[.string p, .string r]) (by simp [results, Tryz.results107, go_sem]) rfl ⟨rfl, ?_⟩
  repeat (first | exact Below.refl _ _ | refine Below.setCell ?_ (by first | (simp; done) | (simp; omega)) _ | refine Below.alloc ?_ (by first | (simp; done) | (simp; omega)) _)
theorem eq_told (x y : Operand) (p r q s : ByteArray) (W : World) : (do eqGuard BinOp.eql 163 x y (.agg #[.string p, .string r]) (.agg #[.string q, .string s]); binOp BinOp.eql 163 (.agg #[.string p, .string r]) (.agg #[.string q, .string s]) : Sem Value).run Tryz.prog W = .ok (.bool (sm p r q s)) W := by
  unfold sm
  go_simp
  by_cases h0 : p.toList = q.toList
  · by_cases h1 : r.toList = s.toList
    · simp [h0, h1]
    · simp [h0, h1]
  · simp [h0]
theorem run_ft (x y : Value) (_hx : x.oneCell' = true) (_hy : y.oneCell' = true) (g : Nat) (W : World) (h0 : W.cell? ⟨g, 0, none⟩ = some x) (h1 : W.cell? ⟨g, 1, none⟩ = some y) : (Instr.loadAt 95 (.pointer (some ⟨g, 0, none⟩))).run Tryz.prog W = .ok (.agg #[x, y]) W := by
  go_simp
def FtAt (w : World) (g : Nat) (x y : Value) : Prop := g < w.heap.size ∧ x.oneCell' = true ∧ y.oneCell' = true ∧ w.cell? ⟨g, 0, none⟩ = some x ∧ w.cell? ⟨g, 1, none⟩ = some y
theorem FtAt.keep {w W : World} {g : Nat} {a b : Value} (x : FtAt w g a b) (hb : Below w.heap.size w W) : FtAt W g a b := by
  obtain ⟨h0, o1, o2, h1, h2⟩ := x
  exact ⟨Nat.lt_of_lt_of_le h0 hb.size, o1, o2, by rw [hb.cell (p := ⟨g, 0, none⟩) h0]; exact h1, by rw [hb.cell (p := ⟨g, 1, none⟩) h0]; exact h2⟩
theorem FtAt.run {W : World} {g : Nat} {a b : Value} (x : FtAt W g a b) : (Instr.loadAt 95 (.pointer (some ⟨g, 0, none⟩))).run Tryz.prog W = .ok (.agg #[a, b]) W := run_ft a b x.2.1 x.2.2.1 g W x.2.2.2.1 x.2.2.2.2
theorem FtAt.at_ (w : World) (g : Nat) (a b : Value) (t : TypeId) (ha : a.oneCell' = true) (hb : b.oneCell' = true) (hg : g = w.heap.size) : FtAt (w.alloc (.cells #[a, b] t)) g a b := by subst hg; exact ⟨by simp, ha, hb, by simp, by simp⟩
theorem same_core (A1 A2 A3 A4 : Option Addr) (n1 n2 n3 n4 c1 c2 c3 c4 : Nat) (p r q s : ByteArray) (w : World)
    (h1 : TxtOf w (.slice A1 n1 c1) p) (h2 : TxtOf w (.slice A2 n2 c2) r) (h3 : TxtOf w (.slice A3 n3 c3) q) (h4 : TxtOf w (.slice A4 n4 c4) s) :
    Calls Tryz.prog 49 #[.agg #[.slice A1 n1 c1, .slice A2 n2 c2], .agg #[.slice A3 n3 c3, .slice A4 n4 c4]] w fun e w' => e = .returned (.bool (sm p r q s)) ∧ Below w.heap.size w w' := by
  have HW : Hid (Below w.heap.size w ((w.alloc (.cells #[.slice A1 n1 c1, .slice A2 n2 c2] 95)).alloc (.cells #[.slice A3 n3 c3, .slice A4 n4 c4] 95))) := ((Below.refl _ _).alloc (Nat.le_refl _) _).alloc (by simp) _
  have HE := Lib.hid (fun x y W => eq_told x y p r q s W)
  have H1 := Lib.hid (fun W (hW : Below w.heap.size w W) => toldOf_core A1 A2 n1 n2 c1 c2 p r W (fun V hV => h1 V (hW.trans (hV.mono hW.size))) (fun V hV => h2 V (hW.trans (hV.mono hW.size))))
  have H2 := Lib.hid (fun W (hW : Below w.heap.size w W) => toldOf_core A3 A4 n3 n4 c3 c4 q s W (fun V hV => h3 V (hW.trans (hV.mono hW.size))) (fun V hV => h4 V (hW.trans (hV.mono hW.size))))
  have HA := Lib.hid ((FtAt.at_ w w.heap.size (.slice A1 n1 c1) (.slice A2 n2 c2) 95 rfl rfl rfl).keep (W := (w.alloc (.cells #[.slice A1 n1 c1, .slice A2 n2 c2] 95)).alloc (.cells #[.slice A3 n3 c3, .slice A4 n4 c4] 95)) ((Below.refl _ _).alloc (Nat.le_refl _) _))
  have HB := Lib.hid (FtAt.at_ (w.alloc (.cells #[.slice A1 n1 c1, .slice A2 n2 c2] 95)) (w.heap.size + 1) (.slice A3 n3 c3) (.slice A4 n4 c4) 95 rfl rfl (by simp))
  clear h1 h2 h3 h4
  generalize sm p r q s = R at *
  go_enter Tryz.func49, Tryz.ntmps49
  go_wp2_with fail
  refine Stab.region 10 [.is (.agg #[.slice A1 n1 c1, .slice A2 n2 c2]), .is (.agg #[.string p, .string r]), .is (.agg #[.slice A3 n3 c3, .slice A4 n4 c4]), .is (.agg #[.string q, .string s]), .is (.bool R), .is (.bool R)] (by kernel_rfl) (by kernel_rfl) rfl rfl ?_ ?_
  · repeat' (first | exact Stab.steps_nil | with_reducible refine Stab.steps_cons ?_ ?_ ?_)
    all_goals first
      | exact trivial
      | exact Stab.owes_assign rfl rfl rfl
      | exact Stab.owes_load rfl (fun v W hb hv => by subst hv; exact (HA.out.keep hb).run) rfl
      | exact Stab.owes_load rfl (fun v W hb hv => by subst hv; exact (HB.out.keep hb).run) rfl
      | exact Stab.owes_bin rfl rfl rfl (fun W => HE.out _ _ W) rfl
      | (refine Stab.owes_call Tryz.func107 (by kernel_rfl) (by kernel_rfl) rfl (fun vs W hb hall => ?_) rfl; obtain ⟨_, _, rfl, rfl, rfl⟩ := hall; (with_reducible refine (H1.out W (HW.out.trans (hb.mono HW.out.size))).mono ?_); rintro e w2 ⟨rfl, hb2⟩; exact ⟨_, rfl, hb2, rfl⟩)
      | (refine Stab.owes_call Tryz.func107 (by kernel_rfl) (by kernel_rfl) rfl (fun vs W hb hall => ?_) rfl; obtain ⟨_, _, rfl, rfl, rfl⟩ := hall; (with_reducible refine (H2.out W (HW.out.trans (hb.mono HW.out.size))).mono ?_); rintro e w2 ⟨rfl, hb2⟩; exact ⟨_, rfl, hb2, rfl⟩)
  · intro W hb _
    simp only [Act.put, List.setIfInBounds_toArray, List.set_cons_succ, List.set_cons_zero]
    go_wp2
    go_ret
    exact ⟨rfl, HW.out.trans (hb.mono HW.out.size)⟩
def smL (p r q s : List Int) : Bool := bif decide (p = q) then decide (r = s) else false
theorem str_beq {a b : List Int} (ha : ∀ x ∈ a, 0 ≤ x ∧ x < 256) (hb : ∀ x ∈ b, 0 ≤ x ∧ x < 256) : ((strOfNums a).toList == (strOfNums b).toList) = decide (a = b) := by
  by_cases h : a = b
  · subst h; simp
  · rw [decide_eq_false h]
    have : (strOfNums a).toList ≠ (strOfNums b).toList := fun e => h (str_inj ha hb (by
      rw [Lib.toList_data, Lib.toList_data] at e
      exact ByteArray.ext (Array.toList_inj.1 e)))
    simpa using this
theorem sm_lists {p r q s : List Int} (hp : ∀ x ∈ p, 0 ≤ x ∧ x < 256) (hr : ∀ x ∈ r, 0 ≤ x ∧ x < 256) (hq : ∀ x ∈ q, 0 ≤ x ∧ x < 256) (hs : ∀ x ∈ s, 0 ≤ x ∧ x < 256) : sm (strOfNums p) (strOfNums r) (strOfNums q) (strOfNums s) = smL p r q s := by
  unfold sm smL
  rw [str_beq hp hq, str_beq hr hs]
theorem same_any (v u v2 u2 : Value) (p r q s : List Int) (w : World) (h1 : Sl w v p) (h2 : Sl w u r) (h3 : Sl w v2 q) (h4 : Sl w u2 s) (hp : ∀ x ∈ p, 0 ≤ x ∧ x < 256) (hr : ∀ x ∈ r, 0 ≤ x ∧ x < 256) (hq : ∀ x ∈ q, 0 ≤ x ∧ x < 256) (hs : ∀ x ∈ s, 0 ≤ x ∧ x < 256) :
    Calls Tryz.prog 49 #[.agg #[v, u], .agg #[v2, u2]] w fun e w' => e = .returned (.bool (smL p r q s)) ∧ Below w.heap.size w w' := by
  rw [← sm_lists hp hr hq hs]
  have k1 := h1.txtOf
  have k2 := h2.txtOf
  have k3 := h3.txtOf
  have k4 := h4.txtOf
  obtain ⟨A1, c1, rfl, _⟩ := h1
  obtain ⟨A2, c2, rfl, _⟩ := h2
  obtain ⟨A3, c3, rfl, _⟩ := h3
  obtain ⟨A4, c4, rfl, _⟩ := h4
  exact same_core _ _ _ _ _ _ _ _ _ _ _ _ _ _ _ _ w k1 k2 k3 k4
end Go.Proofs.YtffegkjlgeblbaaGreatDoor.Typ
end
