/- The document's own function that tells a number's digits, walked: digits of two, the lowest first, seven a byte. -/
import Derived.Test.YtnminpbnlcgblaaLebOrderWalk
namespace Go.Proofs.Ytnminpbnlcgblaa.Leb
open Go.RowKit

def vi (l : List Int) : List Value := l.map (Value.int .i64)
theorem vi_length (l : List Int) : (vi l).length = l.length := by simp [vi]
/-- A slice of whole numbers of the call's own, nil or not. -/
def OwnI (w : World) (B : Nat) (v : Value) (l : List Int) : Prop := w.ownsRow B 3 1 v l.length (vi l)
theorem int_info : (Try.prog.info? 3).map (fun i => (i.zero, i.size, i.bytes)) = some (some (.int .i64 0), 1, 8) := by kernel_rfl
theorem one_newI (w : World) (v : Value) : ∀ j u, [v][j]? = some u → (w.alloc (.cells #[v] 3)).cell? ((⟨w.heap.size, 0, none⟩ : Addr).add j) = some u := by
  intro j u hu
  rcases j with _ | j
  · simp at hu
    subst hu
    simp [Addr.add]
  · simp at hu
theorem OwnI.keep {w w' : World} {B : Nat} {v : Value} {l : List Int} (h : OwnI w B v l) (hb : Below w.heap.size w w') : OwnI w' B v l :=
  World.ownsRow.kept h ⟨hb.os, hb.tape, hb.output, hb.size, fun k hk _ => hb.block k hk⟩ (row := none) (by cases v.ownBlock <;> simp)

theorem wp_int {ops : Array Oper} {rest : List Oper} {o : Oper} {a : Act} {Q : Exit → Act → World → Prop} (w : World) (hgd : o.guard = none) (s x : Operand)
    (ho : o.op = .call { callee := .builtin .append, args := #[s, x], argTypes := #[66, 66] }) (B : Nat) (v : Value) (done : List Int) (y : Int) (hs : a.eval s = v) (hown : OwnI w B v done)
    (hx : a.eval x = .slice (some ⟨w.heap.size, 0, none⟩) 1 1) (hlen : done.length ≤ 1000000) (hB : B ≤ w.heap.size)
    (h : ∀ v' w', OwnI w' B v' (done ++ [y]) → Below B w w' → wpList Try.prog ops Q rest (a.put o.dst v') w') : wpList Try.prog ops Q (o :: rest) a (w.alloc (.cells #[.int .i64 y] 3)) := by
  obtain ⟨i0, hi, hz0, hz1, hz2⟩ := info_parts int_info
  refine wpList_append_own _ hgd s x 66 ho B 3 i0 (.int .i64 0) 1 8 Try.underlying66 hi hz0 hz1 hz2 rfl (by decide) v _ _ hs (hown.alloc _) ⟨w.heap.size, 0, none⟩ 1 1 [.int .i64 y] hx rfl (one_newI w _) (by intro u hu; simp at hu; subst hu; rfl) (by simp only [maxLen]; omega) (by omega) (by simp; omega) ?_
  intro v' w' ho' hg _
  refine h v' w' ?_ (((Below.refl _ _).alloc hB _).grown hg (by simp; omega) fun k hk => (hown.lt k hk).1)
  have e : vi (done ++ [y]) = vi done ++ [.int .i64 y] := by simp [vi]
  unfold OwnI
  rw [e, List.length_append]
  exact ho'

/-- The seven lowest digits of a byte. -/
def b7 (c : Int) : List Int := [c % 2, c / 2 % 2, c / 4 % 2, c / 8 % 2, c / 16 % 2, c / 32 % 2, c / 64 % 2]

inductive DR where
  | short
  | form
  | ok (l : List Int)

def dgl (most : Nat) : List Int → Nat → List Int → DR
  | [], _, _ => .short
  | c :: r, n, out => if n = most ∧ 128 ≤ c then .form else if c < 128 then .ok (out ++ b7 c) else dgl most r (n + 1) (out ++ b7 c)

/-- What the loop keeps. -/
structure DLoop (most at_ : Nat) (l : List Int) (w : World) (k n : Nat) (out : List Int) (s : Value) (wr : World) : Prop where
  pos : k + 1 = at_ + n
  len : out.length + 7 = 7 * n
  n1 : 1 ≤ n
  nle : n ≤ most
  le : k ≤ l.length
  same : dgl most (l.drop k) n out = dgl most (l.drop at_) 1 []
  own : OwnI wr w.heap.size s out
  bel : Below w.heap.size w wr

theorem half (c : Int) (i : Nat) : (c / 2 ^ i) / 2 = c / 2 ^ (i + 1) := by
  rw [Int.pow_succ, Int.ediv_ediv_of_nonneg (Int.pow_nonneg (by omega))]
theorem b7_take (c : Int) (i : Nat) (hi : i < 7) : (b7 c).take (i + 1) = (b7 c).take i ++ [c / 2 ^ i % 2] := by
  have : i = 0 ∨ i = 1 ∨ i = 2 ∨ i = 3 ∨ i = 4 ∨ i = 5 ∨ i = 6 := by omega
  rcases this with rfl | rfl | rfl | rfl | rfl | rfl | rfl <;> simp [b7]

/-- Within the seven. -/
structure Seven (w : World) (out : List Int) (c : Int) (i : Nat) (s : Value) (d : Int) (wr : World) : Prop where
  le : i ≤ 7
  d : d = c / 2 ^ i
  own : OwnI wr w.heap.size s (out ++ (b7 c).take i)
  bel : Below w.heap.size w wr

/-- What digits answers. -/
def DTold (w : World) (at_ : Nat) : DR → Ending → World → Prop
  | .short, e, w' => e = .returned (.tuple #[.slice none 0 0, .int .i64 0, .int .i64 2]) ∧ Below w.heap.size w w'
  | .form, e, w' => e = .returned (.tuple #[.slice none 0 0, .int .i64 0, .int .i64 3]) ∧ Below w.heap.size w w'
  | .ok l, e, w' => ∃ v, e = .returned (.tuple #[v, .int .i64 ((at_ + l.length / 7 : Nat) : Int), .int .i64 0]) ∧ OwnI w' w.heap.size v l ∧ Below w.heap.size w w'

set_option maxHeartbeats 4000000 in
set_option maxRecDepth 100000 in
theorem digits_ok (A : Option Addr) (c bits at_ : Nat) (l : List Int) (w : World) (hA : Byt w w.heap.size A l) (hl : l.length ≤ 1000000) (hby : ∀ x ∈ l, 0 ≤ x ∧ x ≤ 255) (hb1 : 1 ≤ bits) (hb64 : bits ≤ 64) (hat : at_ ≤ l.length) :
    Calls Try.prog 45 #[.slice A l.length c, .int .i64 (at_ : Int), .int .i64 (bits : Int)] w (DTold w at_ (dgl ((bits + 6) / 7) (l.drop at_) 1 [])) := by
  have HA := Lib.hid hA
  have HB := Lib.hid hby
  have d1 : decide ((bits : Int) < 1) = false := by simp; omega
  have d2 : decide (64 < (bits : Int)) = false := by simp; omega
  have d3 : decide ((at_ : Int) < 0) = false := by simp
  have d4 : decide (l.length < at_) = false := by simp; omega
  clear hA hby
  obtain ⟨most, hmost⟩ : ∃ most, most = (bits + 6) / 7 := ⟨_, rfl⟩
  have hmi : ((bits : Int) + 6) / 7 = (most : Int) := by omega
  rw [← hmost]
  have hm1 : 1 ≤ most := by omega
  have hm10 : most ≤ 10 := by omega
  clear hmost
  go_enter Try.func45, Try.ntmps45
  go_wp2
  have HMI := Lib.hid hmi
  clear d1 d2 d3 d4 hmi
  go_loopw [1, 10, 11] (fun a s n wr => ∃ (k m : Nat) (out : List Int), a = .int .i64 (k : Int) ∧ n = .int .i64 (m : Int) ∧ DLoop most at_ l w k m out s wr) (fun _ _ n _ => most + 1 - (intOf n).toNat)
  case atStart => exact ⟨at_, 1, [], rfl, rfl, rfl, rfl, by omega, hm1, hat, rfl, World.ownsRow_nil _ _ _ _, Below.refl _ _⟩
  case round =>
    obtain ⟨k, n, out, rfl, rfl, hL⟩ := hrel
    have HL := Lib.hid hL
    have hn1 := hL.n1
    have hnle := hL.nle
    have hkle := hL.le
    clear hL
    by_cases hn : k = l.length
    · obtain rfl : l.length = k := hn.symm
      go_wp2
      go_ret3
      have h := HL.out.same
      rw [List.drop_length] at h
      rw [← h]
      exact ⟨rfl, HL.out.bel⟩
    · have hk : k < l.length := by omega
      clear hn hkle
      obtain ⟨x, hx⟩ : ∃ x, l[k]? = some x := ⟨_, List.getElem?_eq_getElem hk⟩
      obtain ⟨hx0, hx1⟩ := HB.out x (List.mem_of_getElem? hx)
      obtain ⟨ad, hAe, had, hcell⟩ := HA.out (by omega)
      obtain ⟨ab, ao, asp⟩ := ad
      have hspot : asp = none := by
        have h0 := hcell 0 (.int .u8 (l[0]'(by omega))) (by simp [vb, show 0 < l.length by omega])
        simpa [Addr.add] using World.cell?_spot h0
      subst hspot
      subst hAe
      have hc1 := hcell k (.int .u8 x) (by simp [vb, hx])
      rw [show (⟨ab, ao, none⟩ : Addr).add k = ⟨ab, ao + k, none⟩ from by unfold Addr.add; split <;> simp_all] at hc1
      have hc2 : wr.cell? ⟨ab, ao + k, none⟩ = some (.int .u8 x) := (HL.out.bel.cell (p := ⟨ab, ao + k, none⟩) had).trans hc1
      have HX := Lib.hid hx
      clear hx hcell hc1 had
      by_cases hf : n = most ∧ 128 ≤ x
      · obtain ⟨hnm, hg⟩ := hf
        have hne : ((n : Int) == ((bits : Int) + 6) / 7) = true := by rw [HMI.out, hnm]; simp
        have HNM := Lib.hid hnm
        clear hnm
        go_wp2
        go_ret3
        have h := HL.out.same
        rw [drop_at HX.out, dgl, if_pos ⟨HNM.out, hg⟩] at h
        rw [← h]
        exact ⟨rfl, HL.out.bel⟩
      · have hstep : Hid (dgl most (l.drop k) n out = if x < 128 then .ok (out ++ b7 x) else dgl most (l.drop (k + 1)) (n + 1) (out ++ b7 x)) := by
          show _ = _
          rw [drop_at HX.out, dgl, if_neg hf]
        have hlen7 : Hid ((b7 x).length = 7) := rfl
        have dlk : decide (l.length ≤ k) = false := by simp; omega
        by_cases hnm : n = most
        · have hs1 : x < 128 := by omega
          have d128 : decide (128 ≤ x) = false := by simp; omega
          have hne : ((n : Int) == ((bits : Int) + 6) / 7) = true := by rw [HMI.out, hnm]; simp
          clear hf hnm
          have HS : Hid (Seven w out x 0 u10 x wr) := ⟨by omega, by simp, by simpa using HL.out.own, HL.out.bel⟩
          have HLL : Hid (∃ wz, DLoop most at_ l w k n out u10 wz) := ⟨wr, HL.out⟩
          clear HL
          obtain ⟨wz, HL0⟩ := HLL.out
          have HL := Lib.hid HL0
          clear HLL HL0
          go_wp2
          clear hc2
          obtain ⟨wo, rfl⟩ : ∃ wo : World, wo = wr := ⟨_, rfl⟩
          go_loopw [10, 12, 13] (fun s d i wr => ∃ (t : Nat) (y : Int), d = .int .i64 y ∧ i = .int .i64 (t : Int) ∧ Seven w out x t s y wr) (fun _ _ i _ => 7 - (intOf i).toNat)
          case atStart => exact ⟨0, x, rfl, rfl, HS.out⟩
          case round =>
            obtain ⟨t, y, rfl, rfl, hS⟩ := hrel
            have HT := Lib.hid hS
            have ht := hS.le
            have hy0 : 0 ≤ y := by rw [hS.d]; exact Int.ediv_nonneg hx0 (Int.pow_nonneg (by omega))
            have hy1 : y ≤ 255 := by rw [hS.d]; exact Int.le_trans (Int.ediv_le_self _ hx0) hx1
            clear hS HS
            by_cases h7 : t < 7
            · go_wp2_with (at_builtin; refine wp_int wr rfl (.tmp 57) (.tmp 60) rfl w.heap.size _ (out ++ (b7 x).take t) (y % 2) rfl HT.out.own rfl ?h1 HT.out.bel.size ?_)
              case h1 => have := hlen7.out; have := HL.out.len; simp; omega
              intro v2 w2 o2 hb2
              have HR : Hid (Seven w out x (t + 1) v2 (y / 2) w2) := ⟨by omega, by rw [HT.out.d]; exact half x t, by rw [b7_take x t h7, ← HT.out.d]; exact o2, HT.out.bel.trans hb2⟩
              clear o2 hb2
              go_wp2
              go_roundw
              case rel => first | exact ⟨t + 1, y / 2, rfl, by go_num, HR.out⟩ | ((repeat apply Exists.intro); exact ⟨⟨t + 1, y / 2, rfl, by go_num, HR.out⟩, rfl⟩)
              case measure => simp [intOf]; omega
            · obtain rfl : t = 7 := by omega
              have hy : y = x / 128 := HT.out.d
              have HO : Hid (OwnI wr w.heap.size u10 (out ++ b7 x)) := by have := HT.out.own; rw [List.take_of_length_le (by rw [hlen7.out]; omega)] at this; exact this
              have HBl := Lib.hid HT.out.bel
              clear HT
              by_cases hs : x < 128
              · obtain rfl : y = 0 := by omega
                clear hy
                go_wp2
                go_ret3
                have h := HL.out.same
                rw [hstep.out, if_pos hs] at h
                rw [← h]
                refine ⟨u10, ?_, HO.out, HBl.out⟩
                rw [show at_ + (out ++ b7 x).length / 7 = k + 1 from by rw [List.length_append, hlen7.out]; have := HL.out.len; have := HL.out.pos; omega]
                rfl
              · omega
        · have hne : ((n : Int) == ((bits : Int) + 6) / 7) = false := by rw [HMI.out]; simp; omega
          have hnlt : n + 1 ≤ most := by omega
          clear hf hnm
          have HS : Hid (Seven w out x 0 u10 x wr) := ⟨by omega, by simp, by simpa using HL.out.own, HL.out.bel⟩
          have HLL : Hid (∃ wz, DLoop most at_ l w k n out u10 wz) := ⟨wr, HL.out⟩
          clear HL
          obtain ⟨wz, HL0⟩ := HLL.out
          have HL := Lib.hid HL0
          clear HLL HL0
          go_wp2
          clear hc2
          obtain ⟨wo, rfl⟩ : ∃ wo : World, wo = wr := ⟨_, rfl⟩
          go_loopw [10, 12, 13] (fun s d i wr => ∃ (t : Nat) (y : Int), d = .int .i64 y ∧ i = .int .i64 (t : Int) ∧ Seven w out x t s y wr) (fun _ _ i _ => 7 - (intOf i).toNat)
          case atStart => exact ⟨0, x, rfl, rfl, HS.out⟩
          case round =>
            obtain ⟨t, y, rfl, rfl, hS⟩ := hrel
            have HT := Lib.hid hS
            have ht := hS.le
            have hy0 : 0 ≤ y := by rw [hS.d]; exact Int.ediv_nonneg hx0 (Int.pow_nonneg (by omega))
            have hy1 : y ≤ 255 := by rw [hS.d]; exact Int.le_trans (Int.ediv_le_self _ hx0) hx1
            clear hS HS
            by_cases h7 : t < 7
            · go_wp2_with (at_builtin; refine wp_int wr rfl (.tmp 57) (.tmp 60) rfl w.heap.size _ (out ++ (b7 x).take t) (y % 2) rfl HT.out.own rfl ?h1 HT.out.bel.size ?_)
              case h1 => have := hlen7.out; have := HL.out.len; simp; omega
              intro v2 w2 o2 hb2
              have HR : Hid (Seven w out x (t + 1) v2 (y / 2) w2) := ⟨by omega, by rw [HT.out.d]; exact half x t, by rw [b7_take x t h7, ← HT.out.d]; exact o2, HT.out.bel.trans hb2⟩
              clear o2 hb2
              go_wp2
              go_roundw
              case rel => first | exact ⟨t + 1, y / 2, rfl, by go_num, HR.out⟩ | ((repeat apply Exists.intro); exact ⟨⟨t + 1, y / 2, rfl, by go_num, HR.out⟩, rfl⟩)
              case measure => simp [intOf]; omega
            · obtain rfl : t = 7 := by omega
              have hy : y = x / 128 := HT.out.d
              have HO : Hid (OwnI wr w.heap.size u10 (out ++ b7 x)) := by have := HT.out.own; rw [List.take_of_length_le (by rw [hlen7.out]; omega)] at this; exact this
              have HBl := Lib.hid HT.out.bel
              clear HT
              by_cases hs : x < 128
              · obtain rfl : y = 0 := by omega
                clear hy
                go_wp2
                go_ret3
                have h := HL.out.same
                rw [hstep.out, if_pos hs] at h
                rw [← h]
                refine ⟨u10, ?_, HO.out, HBl.out⟩
                rw [show at_ + (out ++ b7 x).length / 7 = k + 1 from by rw [List.length_append, hlen7.out]; have := HL.out.len; have := HL.out.pos; omega]
                rfl
              · have hyb : (y == 0) = false := by simp; omega
                have HN : Hid (DLoop most at_ l w (k + 1) (n + 1) (out ++ b7 x) u10 wr) := ⟨by have := HL.out.pos; omega, by rw [List.length_append, hlen7.out]; have := HL.out.len; omega, by omega, by omega, by omega, by rw [← HL.out.same, hstep.out, if_neg hs], HO.out, HBl.out⟩
                clear HO HBl hy
                go_wp2
                go_roundw
                case rel => exact ⟨k + 1, n + 1, out ++ b7 x, by go_num, by go_num, HN.out⟩
                case measure => simp [intOf]; omega
end Go.Proofs.Ytnminpbnlcgblaa.Leb
