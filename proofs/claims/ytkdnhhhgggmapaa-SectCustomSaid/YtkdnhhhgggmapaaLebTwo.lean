/- Several parts in one text. -/
import Derived.Test.YtkdnhhhgggmapaaLebOne
import Derived.Test.YtkdnhhhgggmapaaStabAll
import Derived.Laws.BytesArg
import Derived.LoopN
/- The document's own function that tells a number's digits, walked: digits of two, the lowest first, seven a byte. -/
namespace Go.Proofs.Ytkdnhhhgggmapaa.Leb
open Go.RowKit

def vi (l : List Int) : List Value := l.map (Value.int .i64)
theorem vi_length (l : List Int) : (vi l).length = l.length := by simp [vi]
/-- A slice of whole numbers of the call's own, nil or not. -/
def OwnI (w : World) (B : Nat) (v : Value) (l : List Int) : Prop := w.ownsRow B 3 1 v l.length (vi l)
theorem int_info : (Try.prog.info? 3).map (fun i => (i.zero, i.size, i.bytes)) = some (some (.int .i64 0), 1, 8) := by kernel_rfl
theorem one_newI (w : World) (v : Value) : ∀ j u, [v][j]? = some u → (w.alloc (.cells #[v] 3)).cell? ((⟨w.heap.size, 0, none⟩ : Addr).add j) = some u := by
  intro j u hu
  rcases j with _ | j
  · simp at hu
    subst hu
    simp [Addr.add]
  · simp at hu
theorem OwnI.keep {w w' : World} {B : Nat} {v : Value} {l : List Int} (h : OwnI w B v l) (hb : Below w.heap.size w w') : OwnI w' B v l :=
  World.ownsRow.kept h ⟨hb.os, hb.tape, hb.output, hb.size, fun k hk _ => hb.block k hk⟩ (row := none) (by cases v.ownBlock <;> simp)

theorem wp_int {ops : Array Oper} {rest : List Oper} {o : Oper} {a : Act} {Q : Exit → Act → World → Prop} (w : World) (hgd : o.guard = none) (s x : Operand)
    (ho : o.op = .call { callee := .builtin .append, args := #[s, x], argTypes := #[68, 68] }) (B : Nat) (v : Value) (done : List Int) (y : Int) (hs : a.eval s = v) (hown : OwnI w B v done)
    (hx : a.eval x = .slice (some ⟨w.heap.size, 0, none⟩) 1 1) (hlen : done.length ≤ 1000000) (hB : B ≤ w.heap.size)
    (h : ∀ v' w', OwnI w' B v' (done ++ [y]) → Below B w w' → wpList Try.prog ops Q rest (a.put o.dst v') w') : wpList Try.prog ops Q (o :: rest) a (w.alloc (.cells #[.int .i64 y] 3)) := by
  obtain ⟨i0, hi, hz0, hz1, hz2⟩ := info_parts int_info
  refine wpList_append_own _ hgd s x 68 ho B 3 i0 (.int .i64 0) 1 8 Try.underlying68 hi hz0 hz1 hz2 rfl (by decide) v _ _ hs (hown.alloc _) ⟨w.heap.size, 0, none⟩ 1 1 [.int .i64 y] hx rfl (one_newI w _) (by intro u hu; simp at hu; subst hu; rfl) (by simp only [maxLen]; omega) (by omega) (by simp; omega) ?_
  intro v' w' ho' hg _
  refine h v' w' ?_ (((Below.refl _ _).alloc hB _).grown hg (by simp; omega) fun k hk => (hown.lt k hk).1)
  have e : vi (done ++ [y]) = vi done ++ [.int .i64 y] := by simp [vi]
  unfold OwnI
  rw [e, List.length_append]
  exact ho'

/-- The seven lowest digits of a byte. -/
def b7 (c : Int) : List Int := [c % 2, c / 2 % 2, c / 4 % 2, c / 8 % 2, c / 16 % 2, c / 32 % 2, c / 64 % 2]

inductive DR where
  | short
  | form
  | ok (l : List Int)

def dgl (most : Nat) : List Int → Nat → List Int → DR
  | [], _, _ => .short
  | c :: r, n, out => if n = most ∧ 128 ≤ c then .form else if c < 128 then .ok (out ++ b7 c) else dgl most r (n + 1) (out ++ b7 c)

/-- What the loop keeps. -/
structure DLoop (most at_ : Nat) (l : List Int) (w : World) (k n : Nat) (out : List Int) (s : Value) (wr : World) : Prop where
  pos : k + 1 = at_ + n
  len : out.length + 7 = 7 * n
  n1 : 1 ≤ n
  nle : n ≤ most
  le : k ≤ l.length
  same : dgl most (l.drop k) n out = dgl most (l.drop at_) 1 []
  own : OwnI wr w.heap.size s out
  bel : Below w.heap.size w wr

theorem half (c : Int) (i : Nat) : (c / 2 ^ i) / 2 = c / 2 ^ (i + 1) := by
  rw [Int.pow_succ, Int.ediv_ediv_of_nonneg (Int.pow_nonneg (by omega))]
theorem b7_take (c : Int) (i : Nat) (hi : i < 7) : (b7 c).take (i + 1) = (b7 c).take i ++ [c / 2 ^ i % 2] := by
  have : i = 0 ∨ i = 1 ∨ i = 2 ∨ i = 3 ∨ i = 4 ∨ i = 5 ∨ i = 6 := by omega
  rcases this with rfl | rfl | rfl | rfl | rfl | rfl | rfl <;> simp [b7]

/-- Within the seven. -/
structure Seven (w : World) (out : List Int) (c : Int) (i : Nat) (s : Value) (d : Int) (wr : World) : Prop where
  le : i ≤ 7
  d : d = c / 2 ^ i
  own : OwnI wr w.heap.size s (out ++ (b7 c).take i)
  bel : Below w.heap.size w wr

/-- What digits answers. -/
def DTold (w : World) (at_ : Nat) : DR → Ending → World → Prop
  | .short, e, w' => e = .returned (.tuple #[.slice none 0 0, .int .i64 0, .int .i64 2]) ∧ Below w.heap.size w w'
  | .form, e, w' => e = .returned (.tuple #[.slice none 0 0, .int .i64 0, .int .i64 3]) ∧ Below w.heap.size w w'
  | .ok l, e, w' => ∃ v, e = .returned (.tuple #[v, .int .i64 ((at_ + l.length / 7 : Nat) : Int), .int .i64 0]) ∧ OwnI w' w.heap.size v l ∧ Below w.heap.size w w'

set_option maxHeartbeats 4000000 in
set_option maxRecDepth 100000 in
theorem digits_ok (A : Option Addr) (c bits at_ : Nat) (l : List Int) (w : World) (hA : Byt w w.heap.size A l) (hl : l.length ≤ 1000000) (hby : ∀ x ∈ l, 0 ≤ x ∧ x ≤ 255) (hb1 : 1 ≤ bits) (hb64 : bits ≤ 64) (hat : at_ ≤ l.length) :
    Calls Try.prog 37 #[.slice A l.length c, .int .i64 (at_ : Int), .int .i64 (bits : Int)] w (DTold w at_ (dgl ((bits + 6) / 7) (l.drop at_) 1 [])) := by
  have HA := Lib.hid hA
  have HB := Lib.hid hby
  have d1 : decide ((bits : Int) < 1) = false := by simp; omega
  have d2 : decide (64 < (bits : Int)) = false := by simp; omega
  have d3 : decide ((at_ : Int) < 0) = false := by simp
  have d4 : decide (l.length < at_) = false := by simp; omega
  clear hA hby
  obtain ⟨most, hmost⟩ : ∃ most, most = (bits + 6) / 7 := ⟨_, rfl⟩
  have hmi : ((bits : Int) + 6) / 7 = (most : Int) := by omega
  rw [← hmost]
  have hm1 : 1 ≤ most := by omega
  have hm10 : most ≤ 10 := by omega
  clear hmost
  go_enter Try.func37, Try.ntmps37
  go_wp2
  have HMI := Lib.hid hmi
  clear d1 d2 d3 d4 hmi
  go_loopw [1, 10, 11] (fun a s n wr => ∃ (k m : Nat) (out : List Int), a = .int .i64 (k : Int) ∧ n = .int .i64 (m : Int) ∧ DLoop most at_ l w k m out s wr) (fun _ _ n _ => most + 1 - (intOf n).toNat)
  case atStart => exact ⟨at_, 1, [], rfl, rfl, rfl, rfl, by omega, hm1, hat, rfl, World.ownsRow_nil _ _ _ _, Below.refl _ _⟩
  case round =>
    obtain ⟨k, n, out, rfl, rfl, hL⟩ := hrel
    have HL := Lib.hid hL
    have hn1 := hL.n1
    have hnle := hL.nle
    have hkle := hL.le
    clear hL
    by_cases hn : k = l.length
    · obtain rfl : l.length = k := hn.symm
      go_wp2
      go_ret3
      have h := HL.out.same
      rw [List.drop_length] at h
      rw [← h]
      exact ⟨rfl, HL.out.bel⟩
    · have hk : k < l.length := by omega
      clear hn hkle
      obtain ⟨x, hx⟩ : ∃ x, l[k]? = some x := ⟨_, List.getElem?_eq_getElem hk⟩
      obtain ⟨hx0, hx1⟩ := HB.out x (List.mem_of_getElem? hx)
      obtain ⟨ad, hAe, had, hcell⟩ := HA.out (by omega)
      obtain ⟨ab, ao, asp⟩ := ad
      have hspot : asp = none := by
        have h0 := hcell 0 (.int .u8 (l[0]'(by omega))) (by simp [vb, show 0 < l.length by omega])
        simpa [Addr.add] using World.cell?_spot h0
      subst hspot
      subst hAe
      have hc1 := hcell k (.int .u8 x) (by simp [vb, hx])
      rw [show (⟨ab, ao, none⟩ : Addr).add k = ⟨ab, ao + k, none⟩ from by unfold Addr.add; split <;> simp_all] at hc1
      have hc2 : wr.cell? ⟨ab, ao + k, none⟩ = some (.int .u8 x) := (HL.out.bel.cell (p := ⟨ab, ao + k, none⟩) had).trans hc1
      have HX := Lib.hid hx
      clear hx hcell hc1 had
      by_cases hf : n = most ∧ 128 ≤ x
      · obtain ⟨hnm, hg⟩ := hf
        have hne : ((n : Int) == ((bits : Int) + 6) / 7) = true := by rw [HMI.out, hnm]; simp
        have HNM := Lib.hid hnm
        clear hnm
        go_wp2
        go_ret3
        have h := HL.out.same
        rw [drop_at HX.out, dgl, if_pos ⟨HNM.out, hg⟩] at h
        rw [← h]
        exact ⟨rfl, HL.out.bel⟩
      · have hstep : Hid (dgl most (l.drop k) n out = if x < 128 then .ok (out ++ b7 x) else dgl most (l.drop (k + 1)) (n + 1) (out ++ b7 x)) := by
          show _ = _
          rw [drop_at HX.out, dgl, if_neg hf]
        have hlen7 : Hid ((b7 x).length = 7) := rfl
        have dlk : decide (l.length ≤ k) = false := by simp; omega
        by_cases hnm : n = most
        · have hs1 : x < 128 := by omega
          have d128 : decide (128 ≤ x) = false := by simp; omega
          have hne : ((n : Int) == ((bits : Int) + 6) / 7) = true := by rw [HMI.out, hnm]; simp
          clear hf hnm
          have HS : Hid (Seven w out x 0 u10 x wr) := ⟨by omega, by simp, by simpa using HL.out.own, HL.out.bel⟩
          have HLL : Hid (∃ wz, DLoop most at_ l w k n out u10 wz) := ⟨wr, HL.out⟩
          clear HL
          obtain ⟨wz, HL0⟩ := HLL.out
          have HL := Lib.hid HL0
          clear HLL HL0
          go_wp2
          clear hc2
          obtain ⟨wo, rfl⟩ : ∃ wo : World, wo = wr := ⟨_, rfl⟩
          go_loopw [10, 12, 13] (fun s d i wr => ∃ (t : Nat) (y : Int), d = .int .i64 y ∧ i = .int .i64 (t : Int) ∧ Seven w out x t s y wr) (fun _ _ i _ => 7 - (intOf i).toNat)
          case atStart => exact ⟨0, x, rfl, rfl, HS.out⟩
          case round =>
            obtain ⟨t, y, rfl, rfl, hS⟩ := hrel
            have HT := Lib.hid hS
            have ht := hS.le
            have hy0 : 0 ≤ y := by rw [hS.d]; exact Int.ediv_nonneg hx0 (Int.pow_nonneg (by omega))
            have hy1 : y ≤ 255 := by rw [hS.d]; exact Int.le_trans (Int.ediv_le_self _ hx0) hx1
            clear hS HS
            by_cases h7 : t < 7
            · go_wp2_with (at_builtin; refine wp_int wr rfl (.tmp 57) (.tmp 60) rfl w.heap.size _ (out ++ (b7 x).take t) (y % 2) rfl HT.out.own rfl ?h1 HT.out.bel.size ?_)
              case h1 => have := hlen7.out; have := HL.out.len; simp; omega
              intro v2 w2 o2 hb2
              have HR : Hid (Seven w out x (t + 1) v2 (y / 2) w2) := ⟨by omega, by rw [HT.out.d]; exact half x t, by rw [b7_take x t h7, ← HT.out.d]; exact o2, HT.out.bel.trans hb2⟩
              clear o2 hb2
              go_wp2
              go_roundw
              case rel => first | exact ⟨t + 1, y / 2, rfl, by go_num, HR.out⟩ | ((repeat apply Exists.intro); exact ⟨⟨t + 1, y / 2, rfl, by go_num, HR.out⟩, rfl⟩)
              case measure => simp [intOf]; omega
            · obtain rfl : t = 7 := by omega
              have hy : y = x / 128 := HT.out.d
              have HO : Hid (OwnI wr w.heap.size u10 (out ++ b7 x)) := by have := HT.out.own; rw [List.take_of_length_le (by rw [hlen7.out]; omega)] at this; exact this
              have HBl := Lib.hid HT.out.bel
              clear HT
              by_cases hs : x < 128
              · obtain rfl : y = 0 := by omega
                clear hy
                go_wp2
                go_ret3
                have h := HL.out.same
                rw [hstep.out, if_pos hs] at h
                rw [← h]
                refine ⟨u10, ?_, HO.out, HBl.out⟩
                rw [show at_ + (out ++ b7 x).length / 7 = k + 1 from by rw [List.length_append, hlen7.out]; have := HL.out.len; have := HL.out.pos; omega]
                rfl
              · omega
        · have hne : ((n : Int) == ((bits : Int) + 6) / 7) = false := by rw [HMI.out]; simp; omega
          have hnlt : n + 1 ≤ most := by omega
          clear hf hnm
          have HS : Hid (Seven w out x 0 u10 x wr) := ⟨by omega, by simp, by simpa using HL.out.own, HL.out.bel⟩
          have HLL : Hid (∃ wz, DLoop most at_ l w k n out u10 wz) := ⟨wr, HL.out⟩
          clear HL
          obtain ⟨wz, HL0⟩ := HLL.out
          have HL := Lib.hid HL0
          clear HLL HL0
          go_wp2
          clear hc2
          obtain ⟨wo, rfl⟩ : ∃ wo : World, wo = wr := ⟨_, rfl⟩
          go_loopw [10, 12, 13] (fun s d i wr => ∃ (t : Nat) (y : Int), d = .int .i64 y ∧ i = .int .i64 (t : Int) ∧ Seven w out x t s y wr) (fun _ _ i _ => 7 - (intOf i).toNat)
          case atStart => exact ⟨0, x, rfl, rfl, HS.out⟩
          case round =>
            obtain ⟨t, y, rfl, rfl, hS⟩ := hrel
            have HT := Lib.hid hS
            have ht := hS.le
            have hy0 : 0 ≤ y := by rw [hS.d]; exact Int.ediv_nonneg hx0 (Int.pow_nonneg (by omega))
            have hy1 : y ≤ 255 := by rw [hS.d]; exact Int.le_trans (Int.ediv_le_self _ hx0) hx1
            clear hS HS
            by_cases h7 : t < 7
            · go_wp2_with (at_builtin; refine wp_int wr rfl (.tmp 57) (.tmp 60) rfl w.heap.size _ (out ++ (b7 x).take t) (y % 2) rfl HT.out.own rfl ?h1 HT.out.bel.size ?_)
              case h1 => have := hlen7.out; have := HL.out.len; simp; omega
              intro v2 w2 o2 hb2
              have HR : Hid (Seven w out x (t + 1) v2 (y / 2) w2) := ⟨by omega, by rw [HT.out.d]; exact half x t, by rw [b7_take x t h7, ← HT.out.d]; exact o2, HT.out.bel.trans hb2⟩
              clear o2 hb2
              go_wp2
              go_roundw
              case rel => first | exact ⟨t + 1, y / 2, rfl, by go_num, HR.out⟩ | ((repeat apply Exists.intro); exact ⟨⟨t + 1, y / 2, rfl, by go_num, HR.out⟩, rfl⟩)
              case measure => simp [intOf]; omega
            · obtain rfl : t = 7 := by omega
              have hy : y = x / 128 := HT.out.d
              have HO : Hid (OwnI wr w.heap.size u10 (out ++ b7 x)) := by have := HT.out.own; rw [List.take_of_length_le (by rw [hlen7.out]; omega)] at this; exact this
              have HBl := Lib.hid HT.out.bel
              clear HT
              by_cases hs : x < 128
              · obtain rfl : y = 0 := by omega
                clear hy
                go_wp2
                go_ret3
                have h := HL.out.same
                rw [hstep.out, if_pos hs] at h
                rw [← h]
                refine ⟨u10, ?_, HO.out, HBl.out⟩
                rw [show at_ + (out ++ b7 x).length / 7 = k + 1 from by rw [List.length_append, hlen7.out]; have := HL.out.len; have := HL.out.pos; omega]
                rfl
              · have hyb : (y == 0) = false := by simp; omega
                have HN : Hid (DLoop most at_ l w (k + 1) (n + 1) (out ++ b7 x) u10 wr) := ⟨by have := HL.out.pos; omega, by rw [List.length_append, hlen7.out]; have := HL.out.len; omega, by omega, by omega, by omega, by rw [← HL.out.same, hstep.out, if_neg hs], HO.out, HBl.out⟩
                clear HO HBl hy
                go_wp2
                go_roundw
                case rel => exact ⟨k + 1, n + 1, out ++ b7 x, by go_num, by go_num, HN.out⟩
                case measure => simp [intOf]; omega
end Go.Proofs.Ytkdnhhhgggmapaa.Leb

/- The document's own reader of a number that is not below 0, walked: it answers what its digits say. -/
namespace Go.Proofs.Ytkdnhhhgggmapaa.Leb
open Go.RowKit

/-- Digits of two, the lowest first, as a number. -/
def bval : List Int → Int
  | [] => 0
  | b :: r => b + 2 * bval r
def vU (l : List Int) : Int := bval l % 18446744073709551616
theorem vU_nil : vU [] = 0 := rfl
theorem vU_bounds (l : List Int) : 0 ≤ vU l ∧ vU l ≤ 18446744073709551615 := by unfold vU; omega
theorem vU_cons (b : Int) (l : List Int) : IntKind.u64.wrap (IntKind.u64.wrap (vU l * 2) + b) = vU (b :: l) := by
  rw [IntKind.wrap_u64, IntKind.wrap_u64]
  unfold vU
  simp only [bval]
  omega

theorem b7_dig (c : Int) : ∀ x ∈ b7 c, x = 0 ∨ x = 1 := by
  intro x hx
  simp only [b7, List.mem_cons, List.not_mem_nil, or_false] at hx
  omega

theorem dgl_ok {most : Nat} : ∀ (l : List Int) (n : Nat) (out bl : List Int), 1 ≤ n → n ≤ most → out.length + 7 = 7 * n → (∀ x ∈ out, x = 0 ∨ x = 1) → dgl most l n out = .ok bl → 7 ≤ bl.length ∧ bl.length ≤ 7 * most ∧ bl.length % 7 = 0 ∧ ∀ x ∈ bl, x = 0 ∨ x = 1
  | [], _, _, _, _, _, _, _, h => by cases h
  | c :: r, n, out, bl, h1, h2, h3, h4, h => by
    have hd : ∀ x ∈ out ++ b7 c, x = 0 ∨ x = 1 := fun x hx => by
      rcases List.mem_append.1 hx with h | h
      · exact h4 x h
      · exact b7_dig c x h
    have hl : (out ++ b7 c).length = out.length + 7 := by rw [List.length_append]; rfl
    rw [dgl] at h
    split at h
    · cases h
    · rename_i hf
      split at h
      · injection h with h
        subst h
        exact ⟨by omega, by omega, by omega, hd⟩
      · exact dgl_ok r (n + 1) _ bl (by omega) (by omega) (by omega) hd h

/-- What the document's ReadU answers, of its digits. -/
def hiU (bits : Nat) (l : List Int) : Prop := ∀ t, bits ≤ t → l.getD t 0 = 0
def RTold (w : World) (v p e : Int) (k : IntKind) (en : Ending) (w' : World) : Prop := en = .returned (.tuple #[.int k v, .int .i64 p, .int .i64 e]) ∧ Below w.heap.size w w'

theorem drop_get {l : List Int} {t : Nat} (h : t < l.length) : l.drop t = l.getD t 0 :: l.drop (t + 1) := by
  rw [List.drop_eq_getElem_cons h]
  simp [h]

/-- No digit from j on that lies at the width or above is other than 0. -/
def Clear (bits : Nat) (l : List Int) (j : Nat) : Prop := ∀ t, j ≤ t → bits ≤ t → l.getD t 0 = 0

theorem told_row {w w' : World} {at_ : Nat} {bl : List Int} {e : Ending} (hl : 0 < bl.length) (h : DTold w at_ (.ok bl) e w') :
    ∃ g cp, e = .returned (.tuple #[.slice (some ⟨g, 0, none⟩) bl.length cp, .int .i64 ((at_ + bl.length / 7 : Nat) : Int), .int .i64 0]) ∧ OwnI w' w.heap.size (.slice (some ⟨g, 0, none⟩) bl.length cp) bl ∧ Below w.heap.size w w' := by
  obtain ⟨v, rfl, ho, hb⟩ := h
  obtain ⟨g, cp, hv, _⟩ := World.ownsRow.form ho hl
  subst hv
  exact ⟨g, cp, rfl, ho, hb⟩
theorem OwnI.cell {w : World} {B g cp : Nat} {bl : List Int} (h : OwnI w B (.slice (some ⟨g, 0, none⟩) bl.length cp) bl) (t : Nat) (ht : t < bl.length) : w.cell? ⟨g, t, none⟩ = some (.int .i64 (bl.getD t 0)) := by
  have := World.ownsRow.cellAt h t (by omega)
  rw [this]
  simp [vi, ht]

set_option maxHeartbeats 4000000 in
set_option maxRecDepth 100000 in
theorem refReadU_ok (A : Option Addr) (c bits at_ : Nat) (l bl : List Int) (w : World) (hA : Byt w w.heap.size A l) (hl : l.length ≤ 1000000) (hby : ∀ x ∈ l, 0 ≤ x ∧ x ≤ 255) (hb1 : 1 ≤ bits) (hb64 : bits ≤ 64) (hat : at_ ≤ l.length) (hok : dgl ((bits + 6) / 7) (l.drop at_) 1 [] = .ok bl) :
    (hiU bits bl → Calls Try.prog 26 #[.slice A l.length c, .int .i64 (at_ : Int), .int .i64 (bits : Int)] w (RTold w (vU bl) ((at_ + bl.length / 7 : Nat) : Int) 0 .u64)) ∧
    (¬ hiU bits bl → Calls Try.prog 26 #[.slice A l.length c, .int .i64 (at_ : Int), .int .i64 (bits : Int)] w (RTold w 0 0 3 .u64)) := by
  have HD := Lib.hid (digits_ok A c bits at_ l w hA hl hby hb1 hb64 hat)
  rw [hok] at HD
  obtain ⟨hlo, hhi, _, hdig⟩ := dgl_ok _ 1 [] bl (by omega) (by omega) rfl (by simp) hok
  have hn70 : bl.length ≤ 70 := by omega
  have HDG : Hid (∀ t, 0 ≤ bl.getD t 0 ∧ bl.getD t 0 ≤ 1) := fun t => by
    rcases Nat.lt_or_ge t bl.length with h | h
    · have := hdig bl[t] (List.getElem_mem h)
      simp only [List.getD_eq_getElem?_getD, List.getElem?_eq_getElem h, Option.getD_some]
      omega
    · simp [List.getD_eq_getElem?_getD, List.getElem?_eq_none h]
  clear hA hby hok hdig hhi
  obtain ⟨nx, hnx⟩ : ∃ nx : Nat, nx = at_ + bl.length / 7 := ⟨_, rfl⟩
  have HD2 := Lib.hid (HD.out.mono fun e w' h => told_row (by omega) h)
  rw [← hnx] at HD2 ⊢
  clear HD hnx
  refine ⟨fun hh => ?_, fun hh => ?_⟩
  · have HH := Lib.hid hh
    clear hh
    go_enter Try.func26, Try.ntmps26
    go_wp2_with (go_at_call 37; refine HD2.out.mono ?_; rintro e w1 ⟨g, cp, rfl, o1, hb1⟩)
    have HO := Lib.hid o1
    clear o1 HD2
    go_loop [12, 13] (fun v i => ∃ j : Nat, j ≤ bl.length ∧ i = .int .i64 ((j : Int) - 1) ∧ v = .int .u64 (vU (bl.drop j))) (fun _ i => ((intOf i) + 1).toNat)
    case atStart => exact ⟨bl.length, Nat.le_refl _, rfl, by rw [List.drop_length]; rfl⟩
    case round =>
      obtain ⟨j, hj, rfl, rfl⟩ := hrel
      rcases j with _ | t
      · go_wp2
        go_ret3
        exact ⟨by simp, hb1⟩
      · have hcell := HO.out.cell t (by omega)
        obtain ⟨hd0, hd1⟩ := HDG.out t
        have HV := Lib.hid (vU_cons (bl.getD t 0) (bl.drop (t + 1)))
        rw [← drop_get (by omega)] at HV
        have hvb := vU_bounds (bl.drop (t + 1))
        have HZ : Hid (bits ≤ t → bl.getD t 0 = 0) := fun h => HH.out t h
        generalize bl.getD t 0 = x at hcell hd0 hd1 HV HZ
        generalize vU (bl.drop (t + 1)) = V at HV hvb ⊢
        obtain ⟨hv0, hv1⟩ := hvb
        rw [show (((t + 1 : Nat) : Int) - 1) = (t : Int) from by omega]
        by_cases hbt : bits ≤ t
        · obtain rfl : x = 0 := HZ.out hbt
          go_wp2
          go_round
          case rel => exact ⟨t, by omega, by go_num, by rw [← HV.out]; simp⟩
          case measure => simp [intOf]
        · go_wp2
          go_round
          case rel => exact ⟨t, by omega, by go_num, by rw [← HV.out]⟩
          case measure => simp [intOf]
  · have HH := Lib.hid hh
    clear hh
    go_enter Try.func26, Try.ntmps26
    go_wp2_with (go_at_call 37; refine HD2.out.mono ?_; rintro e w1 ⟨g, cp, rfl, o1, hb1⟩)
    have HO := Lib.hid o1
    clear o1 HD2
    go_loop [12, 13] (fun v i => ∃ (j : Nat) (V : Int), j ≤ bl.length ∧ i = .int .i64 ((j : Int) - 1) ∧ v = .int .u64 V ∧ Clear bits bl j) (fun _ i => ((intOf i) + 1).toNat)
    case atStart => exact ⟨bl.length, 0, Nat.le_refl _, rfl, rfl, fun t ht _ => by simp [List.getD_eq_getElem?_getD, List.getElem?_eq_none ht]⟩
    case round =>
      obtain ⟨j, V, hj, rfl, rfl, hcl⟩ := hrel
      have HC := Lib.hid hcl
      clear hcl
      rcases j with _ | t
      · exact absurd (fun t ht => HC.out t (Nat.zero_le _) ht) HH.out
      · have hcell := HO.out.cell t (by omega)
        obtain ⟨hd0, hd1⟩ := HDG.out t
        have HX : Hid (bl.getD t 0 = bl.getD t 0) := rfl
        generalize hgx : bl.getD t 0 = x at hcell hd0 hd1
        have HGX := Lib.hid hgx
        clear hgx HX
        rw [show (((t + 1 : Nat) : Int) - 1) = (t : Int) from by omega]
        by_cases hbt : bits ≤ t
        · by_cases hx : x = 0
          · subst hx
            have HN : Hid (Clear bits bl t) := fun u hu hb => by
              rcases Nat.lt_or_ge t u with h | h
              · exact HC.out u h hb
              · obtain rfl : u = t := by omega
                exact HGX.out
            go_wp2
            go_round
            case rel => exact ⟨t, _, by omega, by go_num, rfl, HN.out⟩
            case measure => simp [intOf]
          · have hxb : (x != 0) = true := by simp [hx]
            clear hx
            go_wp2
            go_ret3
            exact ⟨rfl, hb1⟩
        · have HN : Hid (Clear bits bl t) := fun u hu hb => HC.out u (by omega) hb
          go_wp2
          go_round
          case rel => exact ⟨t, _, by omega, by go_num, rfl, HN.out⟩
          case measure => simp [intOf]
set_option maxHeartbeats 400000 in
set_option maxRecDepth 100000 in
theorem digits_bad (A : Option Addr) (c : Nat) (bits at_ : Int) (l : List Int) (w : World) (h : badArg l at_ bits) :
    Calls Try.prog 37 #[.slice A l.length c, .int .i64 at_, .int .i64 bits] w fun e w' => e = .returned (.tuple #[.slice none 0 0, .int .i64 0, .int .i64 1]) ∧ w = w' := by
  unfold badArg at h
  by_cases h1 : bits < 1
  · clear h
    go_enter Try.func37, Try.ntmps37
    go_wp2
    go_ret3
    exact ⟨rfl, rfl⟩
  · by_cases h2 : 64 < bits
    · clear h
      go_enter Try.func37, Try.ntmps37
      go_wp2
      go_ret3
      exact ⟨rfl, rfl⟩
    · by_cases h3 : at_ < 0
      · clear h
        go_enter Try.func37, Try.ntmps37
        go_wp2
        go_ret3
        exact ⟨rfl, rfl⟩
      · have h4 : (l.length : Int) < at_ := by omega
        clear h
        go_enter Try.func37, Try.ntmps37
        go_wp2
        go_ret3
        exact ⟨rfl, rfl⟩

set_option maxHeartbeats 400000 in
set_option maxRecDepth 100000 in
theorem refReadU_err (A : Option Addr) (n c : Nat) (bits at_ e : Int) (w : World) (he : (e != 0) = true)
    (h : Calls Try.prog 37 #[.slice A n c, .int .i64 at_, .int .i64 bits] w fun en w' => en = .returned (.tuple #[.slice none 0 0, .int .i64 0, .int .i64 e]) ∧ Below w.heap.size w w') :
    Calls Try.prog 26 #[.slice A n c, .int .i64 at_, .int .i64 bits] w (RTold w 0 0 e .u64) := by
  have H := Lib.hid h
  clear h
  go_enter Try.func26, Try.ntmps26
  go_wp2_with (go_at_call 37; refine H.out.mono ?_; rintro en w1 ⟨rfl, hb1⟩)
  go_ret3
  exact ⟨rfl, hb1⟩
end Go.Proofs.Ytkdnhhhgggmapaa.Leb

/- The document's own reader of a number that may be below 0, walked: it answers what its digits say. -/
namespace Go.Proofs.Ytkdnhhhgggmapaa.Leb
open Go.RowKit

def vSr (s : Int) : List Int → Int
  | [] => s
  | b :: r => wrap64 (wrap64 (vSr s r * 2) + b)
def topS (l : List Int) : Int := if l.getD (l.length - 1) 0 = 1 then -1 else 0
def vS (l : List Int) : Int := vSr (topS l) l
def hiS (bits : Nat) (l : List Int) : Prop := ∀ t, bits ≤ t → t < l.length → l.getD t 0 = l.getD (bits - 1) 0
def UpS (bits : Nat) (l : List Int) (j : Nat) : Prop := ∀ t, bits ≤ t → t < j → l.getD t 0 = l.getD (bits - 1) 0

theorem below_drewN' {B : Nat} {a w : World} (h : Below B a w) (n : Nat) : Below B a (w.drewN n) := ⟨h.os, h.tape, h.output, h.size, h.block⟩

end Go.Proofs.Ytkdnhhhgggmapaa.Leb

/- Plain facts: what the program's reader and the document's say of any bytes is the same. -/
namespace Go.Proofs.Ytkdnhhhgggmapaa.Leb
open Go.RowKit

theorem bval_append : ∀ (a b : List Int), bval (a ++ b) = bval a + 2 ^ a.length * bval b
  | [], b => by simp [bval]
  | x :: a, b => by
    simp only [List.cons_append, bval, bval_append a b, List.length_cons, Int.pow_succ]
    rw [Int.mul_add, ← Int.mul_assoc, Int.mul_comm 2 (2 ^ a.length)]
    omega
theorem bval_b7 (c : Int) (h0 : 0 ≤ c) (h1 : c < 128) : bval (b7 c) = c := by
  simp only [b7, bval]
  omega
theorem bval_b7_any (c : Int) : bval (b7 c) = c % 128 := by
  simp only [b7, bval]
  omega
theorem bval_range : ∀ (l : List Int), (∀ x ∈ l, x = 0 ∨ x = 1) → 0 ≤ bval l ∧ bval l < 2 ^ l.length
  | [], _ => by simp [bval]
  | x :: l, h => by
    have := bval_range l fun y hy => h y (by simp [hy])
    have hx := h x (by simp)
    simp only [bval, List.length_cons, Int.pow_succ]
    omega

theorem getD_app (a b : List Int) (t : Nat) : (a ++ b).getD t 0 = if t < a.length then a.getD t 0 else b.getD (t - a.length) 0 := by
  simp only [List.getD_eq_getElem?_getD]
  split
  · rename_i h
    rw [List.getElem?_append_left h]
  · rename_i h
    rw [List.getElem?_append_right (by omega)]

/-- In the byte that is the last one: its digits from d on are all 0 just if it is less. -/
theorem b7_hiU (c : Int) (h0 : 0 ≤ c) (h1 : c < 128) (d : Nat) (hd : 1 ≤ d) (hd7 : d ≤ 7) : fitU c d = true ↔ ∀ i, d ≤ i → (b7 c).getD i 0 = 0 := by
  have hall : ∀ i, 7 ≤ i → (b7 c).getD i 0 = 0 := fun i hi => by
    rw [List.getD_eq_getElem?_getD, List.getElem?_eq_none (by simp [b7]; omega)]
    rfl
  have key : (∀ i, d ≤ i → (b7 c).getD i 0 = 0) ↔ ∀ i, d ≤ i → i < 7 → (b7 c).getD i 0 = 0 :=
    ⟨fun h i hi _ => h i hi, fun h i hi => by
      rcases Nat.lt_or_ge i 7 with g | g
      · exact h i hi g
      · exact hall i g⟩
  rw [key]
  refine seven (Q := fun d => fitU c d = true ↔ ∀ i, d ≤ i → i < 7 → (b7 c).getD i 0 = 0) ?_ ?_ ?_ ?_ ?_ ?_ ?_ d hd hd7 <;>
  · rw [fitU, decide_eq_true_eq]
    constructor
    · intro h i hi h7
      have : i = 0 ∨ i = 1 ∨ i = 2 ∨ i = 3 ∨ i = 4 ∨ i = 5 ∨ i = 6 := by omega
      rcases this with rfl | rfl | rfl | rfl | rfl | rfl | rfl <;> first | omega | (simp only [b7, List.getD_cons_succ, List.getD_cons_zero]; omega)
    · intro h
      have g1 := h 1
      have g2 := h 2
      have g3 := h 3
      have g4 := h 4
      have g5 := h 5
      have g6 := h 6
      simp only [b7, List.getD_cons_succ, List.getD_cons_zero] at g1 g2 g3 g4 g5 g6
      omega
theorem b7_allS : ∀ (c : Fin 128) (d : Fin 8), 1 ≤ d.val → fitS (c.val : Int) d.val = (List.range 7).all fun i => decide (i < d.val) || (b7 (c.val : Int)).getD i 0 == (b7 (c.val : Int)).getD (d.val - 1) 0 := by decide +kernel
theorem b7_hiS (c : Int) (h0 : 0 ≤ c) (h1 : c < 128) (d : Nat) (hd : 1 ≤ d) (hd7 : d ≤ 7) : fitS c d = true ↔ ∀ i, d ≤ i → i < 7 → (b7 c).getD i 0 = (b7 c).getD (d - 1) 0 := by
  obtain ⟨n, rfl⟩ := Int.eq_ofNat_of_zero_le h0
  have := b7_allS ⟨n, by omega⟩ ⟨d, by omega⟩ hd
  simp only at this
  rw [this, List.all_eq_true]
  constructor
  · intro h i hi h7
    have := h i (List.mem_range.2 h7)
    simp only [Bool.or_eq_true, decide_eq_true_eq, beq_iff_eq] at this
    omega
  · intro h i hi
    simp only [Bool.or_eq_true, decide_eq_true_eq, beq_iff_eq]
    rcases Nat.lt_or_ge i d with g | g
    · exact .inl g
    · exact .inr (h i g (List.mem_range.1 hi))

theorem more_eq (acc : Nat) (c : Int) (lo : Nat) (hlo : lo ≤ 63) (hm : lo % 7 = 0) (ha : acc < 2 ^ lo) : (more acc lo c : Int) = ((acc : Int) + 2 ^ lo * (c % 128)) % 18446744073709551616 := by
  revert ha
  refine ten_of (Q := fun lo => acc < 2 ^ lo → (more acc lo c : Int) = ((acc : Int) + 2 ^ lo * (c % 128)) % 18446744073709551616) ?_ ?_ ?_ ?_ ?_ ?_ ?_ ?_ ?_ ?_ lo hlo hm <;>
  · intro ha
    simp only [more] at ha ⊢
    omega
theorem more_step (acc : Nat) (c : Int) (lo : Nat) (hlo : lo ≤ 56) (hm : lo % 7 = 0) (ha : acc < 2 ^ lo) : (more acc lo c : Int) = (acc : Int) + 2 ^ lo * (c % 128) := by
  revert ha
  refine ten_of (Q := fun lo => lo ≤ 56 → acc < 2 ^ lo → (more acc lo c : Int) = (acc : Int) + 2 ^ lo * (c % 128)) ?_ ?_ ?_ ?_ ?_ ?_ ?_ ?_ ?_ ?_ lo (by omega) hm hlo <;>
  · intro h56 ha
    first
      | (simp only [more] at ha ⊢; omega)
      | omega

theorem acc_lt {l : List Int} (h : ∀ x ∈ l, x = 0 ∨ x = 1) : (bval l).toNat < 2 ^ l.length ∧ ((bval l).toNat : Int) = bval l := by
  have := bval_range l h
  have e : ((2 : Int) ^ l.length) = ((2 ^ l.length : Nat) : Int) := by simp
  rw [e] at this
  omega

/-- What both say, digit by digit. -/
def Same (fit : Int → Nat → Bool) (hi : List Int → Prop) (k : Nat) (l : List Int) (lo acc : Nat) : DR → Prop
  | .short => rdl fit k l lo acc = .short
  | .form => rdl fit k l lo acc = .form
  | .ok bl => (hi bl → rdl fit k l lo acc = .ok (vU bl).toNat bl.length) ∧ (¬ hi bl → rdl fit k l lo acc = .form)

theorem same_of {fit : Int → Nat → Bool} {hi : List Int → Prop} {k : Nat} (hk1 : 1 ≤ k) (hk : k ≤ 64)
    (hhi : ∀ (out : List Int) (c : Int), (∀ x ∈ out, x = 0 ∨ x = 1) → 0 ≤ c → c < 128 → out.length < k → k ≤ out.length + 7 → (fit c (k - out.length) = true ↔ hi (out ++ b7 c)))
    (hlo : ∀ (out : List Int) (c : Int), out.length + 7 < k → hi (out ++ b7 c)) :
    ∀ (l : List Int) (n : Nat) (out : List Int), (∀ x ∈ l, 0 ≤ x ∧ x ≤ 255) → 1 ≤ n → n ≤ (k + 6) / 7 → out.length + 7 = 7 * n → (∀ x ∈ out, x = 0 ∨ x = 1) → Same fit hi k l out.length (bval out).toNat (dgl ((k + 6) / 7) l n out)
  | [], _, _, _, _, _, _, _ => rfl
  | c :: r, n, out, hl, h1, h2, h3, h4 => by
    have hc := hl c (by simp)
    obtain ⟨ha, hae⟩ := acc_lt h4
    have hlen : (out ++ b7 c).length = out.length + 7 := by rw [List.length_append]; rfl
    have hd : ∀ x ∈ out ++ b7 c, x = 0 ∨ x = 1 := fun x hx => by
      rcases List.mem_append.1 hx with h | h
      · exact h4 x h
      · exact b7_dig c x h
    have hbv : bval (out ++ b7 c) = ((bval out).toNat : Int) + 2 ^ out.length * (c % 128) := by rw [bval_append, bval_b7_any, hae]
    rw [dgl]
    by_cases hf : n = (k + 6) / 7 ∧ 128 ≤ c
    · rw [if_pos hf]
      exact rdl_form (by omega) (.inl hf.2)
    · rw [if_neg hf]
      by_cases hs : c < 128
      · rw [if_pos hs]
        have hval : (vU (out ++ b7 c)).toNat = more (bval out).toNat out.length c := by
          have := more_eq (bval out).toNat c out.length (by omega) (by omega) ha
          unfold vU
          rw [hbv, ← this]
          exact Int.toNat_natCast _
        by_cases h7 : k ≤ out.length + 7
        · have hiff := hhi out c h4 hc.1 hs (by omega) h7
          refine ⟨fun h => ?_, fun h => ?_⟩
          · rw [hval, hlen]
            exact rdl_ok (fun _ => hiff.2 h) hs
          · refine rdl_form h7 (.inr ?_)
            rw [Bool.eq_false_iff]
            exact fun g => h (hiff.1 g)
        · refine ⟨fun _ => ?_, fun h => absurd (hlo out c (by omega)) h⟩
          rw [hval, hlen]
          exact rdl_ok (fun g => absurd g h7) hs
      · rw [if_neg hs]
        have hn : n + 1 ≤ (k + 6) / 7 := by omega
        have hms := more_step (bval out).toNat c out.length (by omega) (by omega) ha
        have hacc : (bval (out ++ b7 c)).toNat = more (bval out).toNat out.length c := by
          rw [hbv, ← hms]
          exact Int.toNat_natCast _
        have ih := same_of hk1 hk hhi hlo r (n + 1) (out ++ b7 c) (fun x hx => hl x (by simp [hx])) (by omega) hn (by rw [hlen]; omega) hd
        rw [hlen, hacc] at ih
        have hr : rdl fit k (c :: r) out.length (bval out).toNat = rdl fit k r (out.length + 7) (more (bval out).toNat out.length c) := by
          rw [rdl, if_neg (by omega), if_neg hs]
        cases hq : dgl ((k + 6) / 7) r (n + 1) (out ++ b7 c) with
        | short => rw [hq] at ih; exact hr.trans ih
        | form => rw [hq] at ih; exact hr.trans ih
        | ok bl => rw [hq] at ih; exact ⟨fun h => hr.trans (ih.1 h), fun h => hr.trans (ih.2 h)⟩

theorem same_U {k : Nat} (hk1 : 1 ≤ k) (hk : k ≤ 64) (l : List Int) (hl : ∀ x ∈ l, 0 ≤ x ∧ x ≤ 255) : Same fitU (hiU k) k l 0 0 (dgl ((k + 6) / 7) l 1 []) := by
  refine same_of hk1 hk (fun out c _ h0 h1 h2 h3 => ?_) (fun out c h => ?_) l 1 [] hl (by omega) (by omega) rfl (by simp)
  · rw [b7_hiU c h0 h1 _ (by omega) (by omega)]
    constructor
    · intro h t ht
      rw [getD_app, if_neg (by omega)]
      exact h _ (by omega)
    · intro h i hi
      have := h (i + out.length) (by omega)
      rw [getD_app, if_neg (by omega), Nat.add_sub_cancel] at this
      exact this
  · intro t ht
    rw [List.getD_eq_getElem?_getD, List.getElem?_eq_none (by rw [List.length_append]; simp [b7]; omega)]
    rfl

theorem same_S {k : Nat} (hk1 : 1 ≤ k) (hk : k ≤ 64) (l : List Int) (hl : ∀ x ∈ l, 0 ≤ x ∧ x ≤ 255) : Same fitS (hiS k) k l 0 0 (dgl ((k + 6) / 7) l 1 []) := by
  refine same_of hk1 hk (fun out c _ h0 h1 h2 h3 => ?_) (fun out c h => ?_) l 1 [] hl (by omega) (by omega) rfl (by simp)
  · have hlen : (out ++ b7 c).length = out.length + 7 := by rw [List.length_append]; rfl
    rw [b7_hiS c h0 h1 _ (by omega) (by omega)]
    constructor
    · intro h t ht htl
      rw [getD_app, if_neg (by omega), getD_app, if_neg (by omega)]
      rw [show k - 1 - out.length = k - out.length - 1 from by omega]
      exact h _ (by omega) (by omega)
    · intro h i hi h7
      have := h (i + out.length) (by omega) (by omega)
      rw [getD_app, if_neg (by omega), getD_app, if_neg (by omega), Nat.add_sub_cancel, show k - 1 - out.length = k - out.length - 1 from by omega] at this
      exact this
  · intro t ht htl
    have hlen : (out ++ b7 c).length = out.length + 7 := by rw [List.length_append]; rfl
    omega

theorem vSr_eq (s : Int) (hs : s = 0 ∨ s = -1) : ∀ (l : List Int), vSr s l = wrap64 (bval l + s * 2 ^ l.length)
  | [] => by
    rcases hs with rfl | rfl <;> simp [vSr, bval, wrap64]
  | b :: r => by
    rw [vSr, vSr_eq s hs r, bval, List.length_cons, Int.pow_succ]
    have e : s * (2 ^ r.length * 2) = 2 * (s * 2 ^ r.length) := by rw [← Int.mul_assoc, Int.mul_comm]
    rw [e]
    unfold wrap64
    omega

theorem vS_ext (l : List Int) (h : ∀ x ∈ l, x = 0 ∨ x = 1) (h7 : 7 ≤ l.length) (h70 : l.length ≤ 70) (hm : l.length % 7 = 0) : vS l = ext (vU l).toNat l.length := by
  unfold vS
  have hs : topS l = 0 ∨ topS l = -1 := by unfold topS; split <;> simp
  rw [vSr_eq _ hs]
  have hsplit : l = l.take (l.length - 1) ++ [l.getD (l.length - 1) 0] := by
    have hlt : l.length - 1 < l.length := by omega
    have e1 : l.getD (l.length - 1) 0 = l[l.length - 1] := by simp [List.getD_eq_getElem?_getD, hlt]
    rw [e1, ← List.take_succ_eq_append_getElem hlt, show l.length - 1 + 1 = l.length from by omega, List.take_length]
  have hP := bval_range (l.take (l.length - 1)) fun x hx => h x (List.mem_of_mem_take hx)
  have hlP : (l.take (l.length - 1)).length = l.length - 1 := by rw [List.length_take]; omega
  have hB : bval l = bval (l.take (l.length - 1)) + 2 ^ (l.length - 1) * l.getD (l.length - 1) 0 := by
    conv => lhs; rw [hsplit]
    rw [bval_append, hlP]
    simp [bval]
  rw [hlP] at hP
  have hx : l.getD (l.length - 1) 0 = 0 ∨ l.getD (l.length - 1) 0 = 1 := by
    have hlt : l.length - 1 < l.length := by omega
    have := h l[l.length - 1] (List.getElem_mem hlt)
    simpa [List.getD_eq_getElem?_getD, hlt] using this
  have hv : ((vU l).toNat : Int) = bval l % 18446744073709551616 := by
    have := vU_bounds l
    unfold vU at *
    omega
  unfold topS
  generalize l.getD (l.length - 1) 0 = x at hB hx ⊢
  generalize bval (l.take (l.length - 1)) = Pv at hP hB
  generalize bval l = B at hB hv ⊢
  generalize (vU l).toNat = V at hv ⊢
  generalize l.length = n at *
  clear hsplit hlP h hs
  have hn : n = 7 ∨ n = 14 ∨ n = 21 ∨ n = 28 ∨ n = 35 ∨ n = 42 ∨ n = 49 ∨ n = 56 ∨ n = 63 ∨ n = 70 := by omega
  rcases hx with rfl | rfl <;> rcases hn with rfl | rfl | rfl | rfl | rfl | rfl | rfl | rfl | rfl | rfl <;>
  · simp only [ext, IntKind.wrap_u64, wrap64, Nat.reduceLeDiff, Nat.reduceSub, ↓reduceIte, Int.reduceNeg, Int.reduceEq] at hP hB ⊢
    omega

end Go.Proofs.Ytkdnhhhgggmapaa.Leb

/- LebReads walked: what is read of any bytes, from any place, of any width, is what the document says. -/
namespace Go.Proofs.Ytkdnhhhgggmapaa.Leb
open Go.RowKit

theorem refReadU_is (A : Option Addr) (c bits at_ : Nat) (l : List Int) (w : World) (hA : Byt w w.heap.size A l) (hl : l.length ≤ 1000000) (hby : ∀ x ∈ l, 0 ≤ x ∧ x ≤ 255) (hb1 : 1 ≤ bits) (hb64 : bits ≤ 64) (hat : at_ ≤ l.length) :
    Calls Try.prog 26 #[.slice A l.length c, .int .i64 (at_ : Int), .int .i64 (bits : Int)] w (RTold w (uV (rdl fitU bits (l.drop at_) 0 0)) (uP at_ (rdl fitU bits (l.drop at_) 0 0)) (uE (rdl fitU bits (l.drop at_) 0 0)) .u64) := by
  have hd := digits_ok A c bits at_ l w hA hl hby hb1 hb64 hat
  have hs := same_U hb1 hb64 (l.drop at_) fun x hx => hby x (List.mem_of_mem_drop hx)
  cases hq : dgl ((bits + 6) / 7) (l.drop at_) 1 [] with
  | short =>
    rw [hq] at hd hs
    have hs : rdl fitU bits (l.drop at_) 0 0 = .short := hs
    rw [hs]
    exact refReadU_err A _ c _ _ 2 w (by decide) hd
  | form =>
    rw [hq] at hd hs
    have hs : rdl fitU bits (l.drop at_) 0 0 = .form := hs
    rw [hs]
    exact refReadU_err A _ c _ _ 3 w (by decide) hd
  | ok bl =>
    have hok := refReadU_ok A c bits at_ l bl w hA hl hby hb1 hb64 hat hq
    rw [hq] at hs
    by_cases hh : hiU bits bl
    · rw [hs.1 hh]
      simp only [uV, uP, uE]
      rw [show (((vU bl).toNat : Nat) : Int) = vU bl from by have := vU_bounds bl; omega]
      exact hok.1 hh
    · rw [hs.2 hh]
      exact hok.2 hh

theorem bad_told {w : World} {f : FuncId} {args : Array Value} {k : IntKind} (h : Calls Try.prog f args w fun e w' => e = .returned (.tuple #[.int k 0, .int .i64 0, .int .i64 1]) ∧ w = w') : Calls Try.prog f args w (RTold w 0 0 1 k) :=
  h.mono fun e w' ⟨he, hw⟩ => ⟨he, by subst hw; exact Below.refl _ _⟩

end Go.Proofs.Ytkdnhhhgggmapaa.Leb

/- Bytes somewhere in memory, as the texts of layer 4 take them; their text; a new byte behind others. -/
namespace Go.Proofs.Ytkdnhhhgggmapaa.Typ
open Go.RowKit
set_option maxRecDepth 100000
set_option maxHeartbeats 400000

def vb (l : List Int) : List Value := l.map (Value.int .u8)
theorem vb_length (l : List Int) : (vb l).length = l.length := by simp [vb]
/-- A slice of bytes at an address that reads as l and lies below block B. -/
def Byt (w : World) (B : Nat) (ad : Addr) (l : List Int) : Prop := ad.block < B ∧ ad.spot = none ∧ ∀ j, j < l.length → w.cell? ⟨ad.block, ad.off + j, none⟩ = some (.int .u8 (l.getD j 0))
theorem Byt.keep {w w' : World} {B : Nat} {ad : Addr} {l : List Int} (h : Byt w B ad l) (hb : Below B w w') : Byt w' B ad l :=
  ⟨h.1, h.2.1, fun j hj => by rw [hb.cell (p := ⟨ad.block, ad.off + j, none⟩) h.1]; exact h.2.2 j hj⟩
theorem Byt.mono {w : World} {B B' : Nat} {ad : Addr} {l : List Int} (h : Byt w B ad l) (hB : B ≤ B') : Byt w B' ad l := ⟨by have := h.1; omega, h.2⟩
theorem Byt.take {w : World} {B : Nat} {ad : Addr} {l : List Int} (h : Byt w B ad l) (n : Nat) : Byt w B ad (l.take n) := ⟨h.1, h.2.1, fun j hj => by
  rw [List.length_take] at hj
  rw [h.2.2 j (by omega), show (l.take n).getD j 0 = l.getD j 0 from by rw [List.getD_eq_getElem?_getD, List.getD_eq_getElem?_getD, List.getElem?_take, if_pos (by omega)]]⟩
/-- Its text. -/
theorem run_txt (w : World) (g off n c : Nat) (l : List Int) (hl : l.length = n) (h : ∀ i, i < n → w.cell? ⟨g, off + i, none⟩ = some (.int .u8 (l.getD i 0))) : (convert 22 9 (.slice (some ⟨g, off, none⟩) n c)).run Try.prog w = .ok (.string (strOfNums l)) w :=
  run_convert_bytes_arg w 22 5 Try.underlying22 Try.underlying5 g off n c l hl h 9 Try.underlying9
/-- Texts are one just if their bytes are. -/
theorem str_inj {a b : List Int} (ha : ∀ x ∈ a, 0 ≤ x ∧ x < 256) (hb : ∀ x ∈ b, 0 ≤ x ∧ x < 256) (h : strOfNums a = strOfNums b) : a = b := by
  have e := congrArg (fun s => s.data.toList) h
  simp only [strOfNums_data] at e
  have key : ∀ (a b : List Int), (∀ x ∈ a, 0 ≤ x ∧ x < 256) → (∀ x ∈ b, 0 ≤ x ∧ x < 256) → (a.map fun n => UInt8.ofNat n.toNat) = (b.map fun n => UInt8.ofNat n.toNat) → a = b := by
    intro a
    induction a with
    | nil => intro b _ _ h; cases b with
      | nil => rfl
      | cons y b => simp at h
    | cons x a ih => intro b ha hb h; cases b with
      | nil => simp at h
      | cons y b =>
        simp only [List.map_cons, List.cons.injEq] at h
        have hx := ha x (by simp)
        have hy := hb y (by simp)
        have h1 := congrArg UInt8.toNat h.1
        simp only [UInt8.toNat_ofNat'] at h1
        have : x = y := by omega
        rw [this, ih b (fun z hz => ha z (by simp [hz])) (fun z hz => hb z (by simp [hz])) h.2]
  exact key a b ha hb e
theorem Byt.drop {w : World} {B g off : Nat} {l : List Int} (h : Byt w B ⟨g, off, none⟩ l) (k : Nat) : Byt w B ⟨g, off + k, none⟩ (l.drop k) := ⟨h.1, rfl, fun j hj => by
  rw [List.length_drop] at hj
  have := h.2.2 (k + j) (by omega)
  rw [show off + k + j = off + (k + j) from by omega]
  show w.cell? ⟨g, off + (k + j), none⟩ = _
  rw [show (l.drop k).getD j 0 = l.getD (k + j) 0 from by rw [List.getD_eq_getElem?_getD, List.getD_eq_getElem?_getD, List.getElem?_drop]]
  exact this⟩
/-- Bytes: none at all (wherever), or a row of them somewhere. -/
def Sl (w : World) (v : Value) (l : List Int) : Prop :=
  ∃ A c, v = .slice A l.length c ∧ l.length ≤ c ∧ c ≤ 9223372036854775807 ∧ (l ≠ [] → ∃ g off, A = some ⟨g, off, none⟩ ∧ Byt w w.heap.size ⟨g, off, none⟩ l)
theorem Sl.keep {w w' : World} {v : Value} {l : List Int} (h : Sl w v l) (hb : Below w.heap.size w w') : Sl w' v l := by
  obtain ⟨A, c, h1, h2, h3, h4⟩ := h
  refine ⟨A, c, h1, h2, h3, fun h0 => ?_⟩
  obtain ⟨g, off, e, hB⟩ := h4 h0
  exact ⟨g, off, e, (hB.keep hb).mono hb.size⟩
theorem Sl.nil (w : World) : Sl w (.slice none 0 0) [] := ⟨none, 0, rfl, Nat.le_refl _, by omega, fun h => absurd rfl h⟩
theorem byte_info : (Try.prog.info? 5).map (fun i => (i.zero, i.size, i.bytes)) = some (some (.int .u8 0), 1, 1) := by kernel_rfl
theorem vb_oneCell (l : List Int) : ∀ u ∈ vb l, u.oneCell' = true := by
  intro u hu
  obtain ⟨n, _, rfl⟩ := List.mem_map.1 hu
  rfl
/-- Bytes of the call's own, from block B on (nil, if there are none yet). -/
def OwnB (w : World) (B : Nat) (v : Value) (l : List Int) : Prop := w.ownsRow B 5 1 v l.length (vb l)
theorem ownB_nil (w : World) (B : Nat) : OwnB w B (.slice none 0 0) [] := ⟨rfl, .inl ⟨rfl, rfl⟩⟩
theorem OwnB.block {w : World} {B : Nat} {v : Value} {l : List Int} (h : OwnB w B v l) : ∀ k, v.ownBlock = some k → B ≤ k := fun k hk => (World.ownsRow.lt h k hk).1
theorem OwnB.keep {w w' : World} {B : Nat} {v : Value} {l : List Int} (h : OwnB w B v l) (hb : Below w.heap.size w w') : OwnB w' B v l :=
  World.ownsRow.kept h ⟨hb.os, hb.tape, hb.output, hb.size, fun k hk _ => hb.block k hk⟩ (row := none) (by cases v.ownBlock <;> simp)
theorem Byt.cells {w : World} {B g off : Nat} {l : List Int} (h : Byt w B ⟨g, off, none⟩ l) : ∀ j u, (vb l)[j]? = some u → w.cell? ((⟨g, off, none⟩ : Addr).add j) = some u := by
  intro j u hu
  unfold vb at hu
  rw [List.getElem?_map] at hu
  by_cases hj : j < l.length
  · have e := h.2.2 j hj
    rw [List.getElem?_eq_getElem hj] at hu
    simp at hu
    subst hu
    have e2 : l.getD j 0 = l[j] := by simp [hj]
    rw [e2] at e
    cases j with
    | zero => simpa [Addr.add] using e
    | succ j => simpa [Addr.add] using e
  · rw [List.getElem?_eq_none (by omega)] at hu
    simp at hu
theorem one_newB (w : World) (v : Value) : ∀ j u, [v][j]? = some u → (w.alloc (.cells #[v] 5)).cell? ((⟨w.heap.size, 0, none⟩ : Addr).add j) = some u := by
  intro j u hu
  rcases j with _ | j
  · simp at hu
    subst hu
    simp [Addr.add]
  · simp at hu
/-- 'append(s, y)' on bytes of the call's own, or on nil. -/
theorem wp_one {ops : Array Oper} {rest : List Oper} {o : Oper} {a : Act} {Q : Exit → Act → World → Prop} (w : World) (hgd : o.guard = none) (s x : Operand)
    (ho : o.op = .call { callee := .builtin .append, args := #[s, x], argTypes := #[22, 22] }) (B : Nat) (v : Value) (done : List Int) (y : Int) (hs : a.eval s = v) (hown : OwnB w B v done)
    (hx : a.eval x = .slice (some ⟨w.heap.size, 0, none⟩) 1 1) (hlen : done.length ≤ 10000000) (hB : B ≤ w.heap.size)
    (h : ∀ v' w', OwnB w' B v' (done ++ [y]) → Below B w w' → wpList Try.prog ops Q rest (a.put o.dst v') w') : wpList Try.prog ops Q (o :: rest) a (w.alloc (.cells #[.int .u8 y] 5)) := by
  obtain ⟨i0, hi, hz0, hz1, hz2⟩ := info_parts byte_info
  refine wpList_append_own _ hgd s x 22 ho B 5 i0 (.int .u8 0) 1 1 Try.underlying22 hi hz0 hz1 hz2 rfl (by decide) v _ _ hs (World.ownsRow.alloc hown _) ⟨w.heap.size, 0, none⟩ 1 1 [.int .u8 y] hx rfl (one_newB w _) (by intro u hu; simp at hu; subst hu; rfl) (by simp only [maxLen]; omega) (by omega) (by simp; omega) ?_
  intro v' w' ho' hg hn
  refine h v' w' ?_ (((Below.refl _ _).alloc hB _).grown hg (by simp; omega) hown.block)
  have ho2 : w'.ownsRow B 5 1 v' (done ++ [y]).length (vb (done ++ [y])) := by simpa [vb] using ho'
  exact ho2
theorem own_cells {w : World} {B g cap : Nat} {v : Value} {n : Nat} {xs : List Value} {t : TypeId} (h : w.ownsRow B t 1 v n xs) (hv : v = .slice (some ⟨g, 0, none⟩) n cap) : ∀ j u, xs[j]? = some u → w.cell? ⟨g, 0 + j, none⟩ = some u := by
  intro j u hu
  have e := World.ownsRow.cells h (g := g) (by subst hv; rfl) j u hu
  cases j with
  | zero => simpa [Addr.add] using e
  | succ j => simpa [Addr.add] using e
theorem OwnB.sl {w : World} {B : Nat} {v : Value} {l : List Int} (h : OwnB w B v l) : Sl w v l := by
  have h' := h
  obtain ⟨_, ⟨hv, hl⟩ | ⟨g, cap, cur, hv, hB, hc, hle, hm, hsz, ht⟩⟩ := h'
  · have : l = [] := List.length_eq_zero_iff.1 hl
    subst this
    exact ⟨none, 0, hv, Nat.le_refl _, by omega, fun h => absurd rfl h⟩
  · refine ⟨_, cap, hv, hle, by unfold maxLen at hm; omega, fun h0 => ⟨g, 0, rfl, ?_, rfl, fun j hj => own_cells h hv j _ ?_⟩⟩
    · exact (Array.getElem?_eq_some_iff.1 hc).1
    · unfold vb; rw [List.getElem?_map, List.getElem?_eq_getElem hj]; simp [hj]
theorem none_txt (A : Option Addr) (c : Nat) (w : World) : (convert 22 9 (.slice A 0 c)).run Try.prog w = .ok (.string (strOfNums [])) w := by
  cases A with
  | none => rfl
  | some a => rfl
theorem sl_txt {w : World} {v : Value} {l : List Int} (h : Sl w v l) : (convert 22 9 v).run Try.prog w = .ok (.string (strOfNums l)) w := by
  obtain ⟨A, c, rfl, _, _, h4⟩ := h
  by_cases h0 : l = []
  · subst h0
    exact none_txt A c w
  · obtain ⟨g, off, rfl, hB⟩ := h4 h0
    exact run_txt w g off l.length c l rfl hB.2.2
theorem Sl.leb {w : World} {A : Option Addr} {n c : Nat} {l : List Int} (h : Sl w (.slice A n c) l) : Leb.Byt w w.heap.size A l := by
  intro h0
  obtain ⟨A', c', e, _, _, h4⟩ := h
  obtain ⟨g, off, rfl, hB⟩ := h4 (fun e => by rw [e] at h0; simp at h0)
  injection e with e1 e2 e3
  subst e1
  exact ⟨_, rfl, hB.1, fun j u hu => hB.cells j u hu⟩
theorem by255 {l : List Int} (h : ∀ x ∈ l, 0 ≤ x ∧ x < 256) : ∀ x ∈ l, 0 ≤ x ∧ x ≤ 255 := fun x hx => by have := h x hx; omega
theorem rdl_len {fit : Int → Nat → Bool} {bits : Nat} : ∀ (l : List Int) (lo acc v m : Nat), Leb.rdl fit bits l lo acc = .ok v m → m ≤ lo + 7 * l.length
  | [], _, _, _, _, h => by cases h
  | c :: r, lo, acc, v, m, h => by
    rw [Leb.rdl] at h
    rw [List.length_cons]
    split at h
    · cases h
    · split at h
      · injection h with _ h
        omega
      · have := rdl_len r (lo + 7) _ v m h
        omega
theorem cell_spot {w : World} {x : Addr} {v : Value} (h : w.cell? x = some v) : x.spot = none := by
  unfold World.cell? at h
  split at h
  · split at h
    · cases h
    · rename_i hs
      cases hx : x.spot with
      | none => rfl
      | some _ => rw [hx] at hs; simp at hs
  · cases h
theorem add_plain (b o j : Nat) : (⟨b, o, none⟩ : Addr).add j = ⟨b, o + j, none⟩ := by
  unfold Addr.add
  split
  · rename_i h; subst h; rfl
  · rfl
theorem take_getD (zs : List Int) (n j : Nat) (h : j < n) : (zs.take n).getD j 0 = zs.getD j 0 := by
  rw [List.getD_eq_getElem?_getD, List.getD_eq_getElem?_getD, List.getElem?_take, if_pos h]
theorem came_parts {k : IntKind} {w : World} {a : Option Addr} {len cap : Nat} {zs : List Int} (h : Leb.Came k w a len cap zs) :
    (zs.take len).length = len ∧ len ≤ cap ∧ cap ≤ 9223372036854775807 ∧ (zs.take len ≠ [] → ∃ g off, a = some ⟨g, off, none⟩ ∧ g < w.heap.size ∧ ∀ j, j < len → w.cell? ⟨g, off + j, none⟩ = some (.int k ((zs.take len).getD j 0))) ∧ ∀ n ∈ zs.take len, (Lit.int k n).wf = true := by
  rcases h with ⟨rfl, rfl, rfl, rfl⟩ | ⟨x, rfl, hl, hm, hz, hc, hw⟩
  · exact ⟨rfl, Nat.le_refl _, by omega, fun h => absurd rfl h, by simp⟩
  · have hlen : (zs.take len).length = len := by rw [List.length_take]; omega
    unfold maxLen at hm
    refine ⟨hlen, hl, by omega, fun h0 => ?_, fun n hn => hw n (List.mem_of_mem_take hn)⟩
    have hpos : 0 < len := by
      rcases Nat.eq_zero_or_pos len with e | e
      · rw [e] at h0; simp at h0
      · exact e
    have h1 := hc 0 (by omega)
    rw [show x.add 0 = x from by unfold Addr.add; rw [if_pos rfl]] at h1
    obtain ⟨g, off, sp⟩ := x
    obtain rfl : sp = none := cell_spot h1
    refine ⟨g, off, rfl, World.block_lt_of_cell? w _ h1, fun j hj => ?_⟩
    rw [← add_plain, take_getD zs len j hj]
    exact hc j (by omega)
theorem came_sl {w : World} {a : Option Addr} {len cap : Nat} {zs : List Int} (h : Leb.Came .u8 w a len cap zs) : Sl w (.slice a len cap) (zs.take len) ∧ (∀ x ∈ zs.take len, 0 ≤ x ∧ x < 256) := by
  obtain ⟨h1, h2, h3, h4, h5⟩ := came_parts h
  refine ⟨⟨a, cap, by rw [h1], by omega, h3, fun h0 => ?_⟩, fun x hx => by have := bounds_u8 (h5 x hx); omega⟩
  obtain ⟨g, off, e, hg, hc⟩ := h4 h0
  exact ⟨g, off, e, hg, rfl, fun j hj => hc j (by omega)⟩
theorem OwnB.row {w : World} {B : Nat} {v : Value} {l : List Int} (h : OwnB w B v l) : ∃ A c, v = .slice A l.length c ∧ Sl w (.slice A l.length c) l := by
  have hs := h.sl
  obtain ⟨A, c, e, _⟩ := h.sl
  exact ⟨A, c, e, by rw [← e]; exact hs⟩
end Go.Proofs.Ytkdnhhhgggmapaa.Typ

/- Numbers of 32 digits in bytes: how great, how many bytes, cut short. Plain lists. -/
namespace Go.Proofs.Ytkdnhhhgggmapaa.Typ
open Go.RowKit Leb
set_option maxRecDepth 100000
set_option maxHeartbeats 1000000

theorem rdl32_step {acc lo : Nat} {c : Int} (h0 : 0 ≤ c) (hlo : lo = 0 ∨ lo = 7 ∨ lo = 14 ∨ lo = 21 ∨ lo = 28) (ha : acc < 2 ^ lo) : more acc lo c < 2 ^ (lo + 7) ∧ (32 ≤ lo + 7 → c < 2 ^ (32 - lo) → more acc lo c < 4294967296) := by
  have hu : ((c % 128).toNat : Int) = c % 128 := by omega
  generalize hU : (c % 128).toNat = u at *
  have hb : u < 128 := by omega
  rcases hlo with rfl | rfl | rfl | rfl | rfl <;> rw [more_small acc _ c u hu.symm (by omega)] <;> refine ⟨by omega, fun h1 h2 => by omega⟩
theorem rdl32_small : ∀ (l : List Int) (lo acc v m : Nat), (∀ x ∈ l, 0 ≤ x ∧ x < 256) → (lo = 0 ∨ lo = 7 ∨ lo = 14 ∨ lo = 21 ∨ lo = 28) → acc < 2 ^ lo → rdl fitU 32 l lo acc = .ok v m → v < 4294967296 ∧ ∃ j, m = 7 * (j + 1) ∧ j ≤ 4 ∧ v < 128 ^ (j + 1)
  | [], _, _, _, _, _, _, _, h => by cases h
  | c :: r, lo, acc, v, m, hx, hlo, ha, h => by
    have hc := hx c (by simp)
    obtain ⟨s1, s2⟩ := rdl32_step hc.1 hlo ha
    rw [rdl] at h
    split at h
    · cases h
    · rename_i hn
      split at h
      · injection h with h1 h2
        subst h1 h2
        rcases hlo with rfl | rfl | rfl | rfl | rfl
        · exact ⟨by omega, 0, by omega, by omega, by omega⟩
        · exact ⟨by omega, 1, by omega, by omega, by omega⟩
        · exact ⟨by omega, 2, by omega, by omega, by omega⟩
        · exact ⟨by omega, 3, by omega, by omega, by omega⟩
        · have hf : fitU c (32 - 28) = true := by
            cases hq : fitU c (32 - 28) with
            | true => rfl
            | false => exact absurd ⟨by omega, .inr hq⟩ hn
          refine ⟨s2 (by omega) (by unfold fitU at hf; simpa using hf), 4, by omega, by omega, by omega⟩
      · refine rdl32_small r (lo + 7) _ v m (fun x hx' => hx x (by simp [hx'])) ?_ s1 h
        have : ¬ 32 ≤ lo + 7 := fun h32 => hn ⟨h32, .inl (by omega)⟩
        omega
theorem rdl32 {l : List Int} {v m : Nat} (hx : ∀ x ∈ l, 0 ≤ x ∧ x < 256) (h : rdl fitU 32 l 0 0 = .ok v m) : v < 4294967296 ∧ lenU v ≤ m / 7 := by
  obtain ⟨h1, j, rfl, _, h2⟩ := rdl32_small l 0 0 v m hx (.inl rfl) (by simp) h
  exact ⟨h1, by have := lenU_le j v h2; omega⟩
theorem short32 {fit : Int → Nat → Bool} : ∀ (l : List Int) (lo acc : Nat), (∀ x ∈ l, 128 ≤ x) → lo + 7 * l.length ≤ 31 → rdl fit 32 l lo acc = .short
  | [], _, _, _, _ => rfl
  | c :: r, lo, acc, h, hl => by
    have hc := h c (by simp)
    rw [List.length_cons] at hl
    rw [rdl, if_neg (by omega), if_neg (by omega)]
    exact short32 r (lo + 7) _ (fun x hx => h x (by simp [hx])) (by omega)
theorem lenU_five {v : Nat} (h : v < 4294967296) : lenU v ≤ 5 := lenU_le 4 v (by omega)
/-- A number's bytes read back; a byte less is too short. -/
theorem back32 {v : Nat} (h : v < 4294967296) (tail : List Int) : rdl fitU 32 (uB v ++ tail) 0 0 = .ok v (7 * lenU v) := by
  rw [rdU_back 32 (by omega) tail v v 0 0 (Nat.le_refl _) (by omega) rfl (by simp), Nat.sub_zero, if_pos (by omega)]
  simp
theorem cut32 {v : Nat} (h : v < 4294967296) {m : Nat} (hm : m + 1 ≤ lenU v) : rdl fitU 32 ((uB v).take m) 0 0 = .short := by
  refine short32 _ 0 0 (uB_front v v m (Nat.le_refl _) hm) ?_
  have := lenU_five h
  rw [List.length_take]
  omega
end Go.Proofs.Ytkdnhhhgggmapaa.Typ
