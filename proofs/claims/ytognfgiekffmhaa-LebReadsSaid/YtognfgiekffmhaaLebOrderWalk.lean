/- LebOrder walked: numbers one behind the other are read as they were laid. -/
import Derived.Test.YtognfgiekffmhaaLebBackParts
namespace Go.Proofs.Ytognfgiekffmhaa.Leb
open Go.RowKit

/-- A slice of whole numbers that reads as l and lies below block B. -/
def Ints (k : IntKind) (w : World) (B : Nat) (A : Option Addr) (l : List Int) : Prop :=
  0 < l.length → ∃ b off, A = some ⟨b, off, none⟩ ∧ b < B ∧ ∀ (i : Nat) (x : Int), l[i]? = some x → w.cell? ⟨b, off + i, none⟩ = some (.int k x)

theorem Came.ints {k : IntKind} {w : World} {a : Option Addr} {len cap : Nat} {zs : List Int} (h : Came k w a len cap zs) :
    Ints k w w.heap.size a (zs.take len) ∧ (zs.take len).length = len ∧ (∀ x ∈ zs.take len, (Lit.int k x).wf = true) ∧ len ≤ 9223372036854775807 := by
  rcases h with ⟨rfl, rfl, rfl, rfl⟩ | ⟨x, rfl, hl, hm, hz, hc, hw⟩
  · exact ⟨fun h => absurd h (by simp), rfl, by simp, by omega⟩
  · have hlen : (zs.take len).length = len := by rw [List.length_take]; omega
    unfold maxLen at hm
    refine ⟨fun h0 => ?_, hlen, fun y hy => hw y (List.mem_of_mem_take hy), by omega⟩
    have h1 := hc 0 (by omega)
    obtain ⟨b, off, sp⟩ := x
    have hsp : sp = none := by simpa [Addr.add] using World.cell?_spot h1
    subst hsp
    refine ⟨b, off, rfl, ?_, fun i y hy => ?_⟩
    · have := World.block_lt_of_cell? w _ h1
      simpa [Addr.add] using this
    · have hi : i < len := by
        have := (List.getElem?_eq_some_iff.1 hy).1
        omega
      have hci := hc i (by omega)
      rw [show (⟨b, off, none⟩ : Addr).add i = ⟨b, off + i, none⟩ from by unfold Addr.add; split <;> simp_all] at hci
      rw [hci]
      rw [List.getElem?_take, if_pos hi] at hy
      simp [hy]

theorem Ints.at_ {k : IntKind} {w wr : World} {A : Option Addr} {l : List Int} (h : Ints k w w.heap.size A l) (hb : Below w.heap.size w wr) {j : Nat} {x : Int} (hx : l[j]? = some x) :
    ∃ b off, A = some ⟨b, off, none⟩ ∧ wr.cell? ⟨b, off + j, none⟩ = some (.int k x) := by
  obtain ⟨b, off, e, hB, hc⟩ := h (by have := (List.getElem?_eq_some_iff.1 hx).1; omega)
  exact ⟨b, off, e, (hb.cell (p := ⟨b, off + j, none⟩) hB).trans (hc j x hx)⟩

/-- Bytes of numbers one behind the other. -/
def cU (l : List Nat) : List Int := l.flatMap uB
def cS (l : List Int) : List Int := l.flatMap sB
theorem cU_snoc {l : List Nat} {j x : Nat} (h : l[j]? = some x) : cU (l.take (j + 1)) = cU (l.take j) ++ uB x := by
  have hj := (List.getElem?_eq_some_iff.1 h).1
  have e : l[j] = x := (List.getElem?_eq_some_iff.1 h).2
  rw [List.take_succ_eq_append_getElem hj, e]
  simp [cU]
theorem cS_snoc {l : List Int} {j : Nat} {x : Int} (h : l[j]? = some x) : cS (l.take (j + 1)) = cS (l.take j) ++ sB x := by
  have hj := (List.getElem?_eq_some_iff.1 h).1
  have e : l[j] = x := (List.getElem?_eq_some_iff.1 h).2
  rw [List.take_succ_eq_append_getElem hj, e]
  simp [cS]
theorem cU_rest {l : List Nat} {j x : Nat} (post : List Int) (h : l[j]? = some x) : (cU l ++ post).drop (cU (l.take j)).length = uB x ++ (cU (l.drop (j + 1)) ++ post) := by
  have hj := (List.getElem?_eq_some_iff.1 h).1
  have e : l[j] = x := (List.getElem?_eq_some_iff.1 h).2
  have e2 : l = l.take j ++ (x :: l.drop (j + 1)) := by rw [← e, List.getElem_cons_drop, List.take_append_drop]
  have e3 : cU l = cU (l.take j) ++ (uB x ++ cU (l.drop (j + 1))) := by
    conv => lhs; rw [e2]
    simp [cU]
  rw [e3, List.append_assoc, List.drop_left, List.append_assoc]
theorem cS_rest {l : List Int} {j : Nat} {x : Int} (pre : List Int) (h : l[j]? = some x) : (pre ++ cS l).drop (pre ++ cS (l.take j)).length = sB x ++ cS (l.drop (j + 1)) := by
  have hj := (List.getElem?_eq_some_iff.1 h).1
  have e : l[j] = x := (List.getElem?_eq_some_iff.1 h).2
  have e2 : l = l.take j ++ (x :: l.drop (j + 1)) := by rw [← e, List.getElem_cons_drop, List.take_append_drop]
  have e3 : cS l = cS (l.take j) ++ (sB x ++ cS (l.drop (j + 1))) := by
    conv => lhs; rw [e2]
    simp [cS]
  rw [e3, ← List.append_assoc pre, List.drop_left]
theorem cU_le : ∀ (l : List Nat), (∀ x ∈ l, x < 18446744073709551616) → (cU l).length ≤ 10 * l.length
  | [], _ => by simp [cU]
  | x :: l, h => by
    have h1 := cU_le l fun y hy => h y (by simp [hy])
    have h2 := lenU_ten (h x (by simp))
    rw [← uB_len] at h2
    simp only [cU, List.flatMap_cons, List.length_append, List.length_cons] at h1 ⊢
    omega
theorem cS_le : ∀ (l : List Int), (∀ x ∈ l, -9223372036854775808 ≤ x ∧ x ≤ 9223372036854775807) → (cS l).length ≤ 10 * l.length
  | [], _ => by simp [cS]
  | x :: l, h => by
    have h1 := cS_le l fun y hy => h y (by simp [hy])
    have h2 := lenS_ten (h x (by simp)).1 (h x (by simp)).2
    rw [← sB_len] at h2
    simp only [cS, List.flatMap_cons, List.length_append, List.length_cons] at h1 ⊢
    omega
theorem cU_byte (l : List Nat) : ∀ x ∈ cU l, 0 ≤ x ∧ x ≤ 255 := fun x hx => by
  obtain ⟨v, _, hv⟩ := List.mem_flatMap.1 hx
  exact uB_byte v x hv
theorem cS_byte (l : List Int) : ∀ x ∈ cS l, 0 ≤ x ∧ x ≤ 255 := fun x hx => by
  obtain ⟨v, _, hv⟩ := List.mem_flatMap.1 hx
  exact sB_byte v x hv

theorem cU_part {l : List Nat} (j : Nat) (h : ∀ x ∈ l, x < 18446744073709551616) (hl : l.length ≤ 50) : (cU (l.take j)).length ≤ 500 := by
  have h1 := cU_le (l.take j) fun x hx => h x (List.mem_of_mem_take hx)
  have h2 : (l.take j).length ≤ l.length := by rw [List.length_take]; omega
  omega
theorem cS_part {l : List Int} (j : Nat) (h : ∀ x ∈ l, -9223372036854775808 ≤ x ∧ x ≤ 9223372036854775807) (hl : l.length ≤ 50) : (cS (l.take j)).length ≤ 500 := by
  have h1 := cS_le (l.take j) fun x hx => h x (List.mem_of_mem_take hx)
  have h2 : (l.take j).length ≤ l.length := by rw [List.length_take]; omega
  omega

/-- A slice of bytes, wherever it lies. -/
def Acc (w : World) (wr : World) (s : Value) (l : List Int) : Prop := ∃ A c, s = .slice A l.length c ∧ Byt wr wr.heap.size A l ∧ Below w.heap.size w wr
theorem Acc.next {w wr w1 : World} {l : List Int} {A : Option Addr} {c : Nat} {s : Value} (h : Acc w wr (.slice A l.length c) l) {l' : List Int} (ho : Own w1 wr.heap.size s l') (hb : Below wr.heap.size wr w1) : Acc w w1 s l' := by
  obtain ⟨_, _, _, _, hb0⟩ := h
  obtain ⟨A', c', e, hy⟩ := ho.slice
  exact ⟨A', c', e, hy, hb0.trans (hb.mono hb0.size)⟩

theorem orderU (W : World) (A : Option Addr) (c at_ v : Nat) (l rest : List Int) (hA : Byt W W.heap.size A l) (hl : l.length ≤ 1000) (hby : ∀ x ∈ l, 0 ≤ x ∧ x ≤ 255) (hat : at_ ≤ l.length) (hd : l.drop at_ = uB v ++ rest) (hv : v < 18446744073709551616) :
    Calls Try.prog 19 #[.slice A l.length c, .int .i64 (at_ : Int), .int .i64 64] W fun e w' => e = .returned (.tuple #[.int .u64 (v : Int), .int .i64 ((at_ + lenU v : Nat) : Int), .int .i64 0]) ∧ Below W.heap.size W w' := by
  have := ReadU_is A c 64 at_ l W hA (by omega) hby (by omega) (by omega) hat
  rw [hd, rdU_back 64 (by omega) rest v v 0 0 (Nat.le_refl _) (by omega) rfl (by simp), Nat.sub_zero, if_pos hv] at this
  simp only [uV, uP, uE] at this
  rw [show 0 + v * 2 ^ 0 = v from by omega, show at_ + (0 + 7 * lenU v) / 7 = at_ + lenU v from by omega] at this
  exact this
theorem orderS (W : World) (A : Option Addr) (c at_ : Nat) (v : Int) (l rest : List Int) (hA : Byt W W.heap.size A l) (hl : l.length ≤ 1000) (hby : ∀ x ∈ l, 0 ≤ x ∧ x ≤ 255) (hat : at_ ≤ l.length) (hd : l.drop at_ = sB v ++ rest) (h1 : -9223372036854775808 ≤ v) (h2 : v ≤ 9223372036854775807) :
    Calls Try.prog 21 #[.slice A l.length c, .int .i64 (at_ : Int), .int .i64 64] W fun e w' => e = .returned (.tuple #[.int .i64 v, .int .i64 ((at_ + lenS v : Nat) : Int), .int .i64 0]) ∧ Below W.heap.size W w' := by
  have := ReadS_is A c 64 at_ l W hA (by omega) hby (by omega) (by omega) hat
  have hr := rdS_back 64 (by omega) rest _ v 0 0 (Nat.le_refl _) (by omega) rfl (by simp)
  rw [Nat.sub_zero, if_pos ⟨h1, by simp; omega⟩] at hr
  obtain ⟨V, hV, hV2⟩ := hr
  rw [show 0 + 7 * lenS v = 7 * lenS v from by omega] at hV hV2
  rw [hd, hV] at this
  simp only [sV, uP, uE] at this
  rw [ext_back v V h1 h2 (by rw [hV2]; simp), show at_ + (7 * lenS v) / 7 = at_ + lenS v from by omega] at this
  exact this

/-- A place behind just these bytes. -/
def Here (p : Nat) (l : List Int) : Prop := p = l.length

set_option maxHeartbeats 8000000 in
set_option maxRecDepth 100000 in
theorem order_core (A0 A1 : Option Addr) (c0 c1 : Nat) (us : List Nat) (ms : List Int) (w : World) (h0 : Ints .u64 w w.heap.size A0 (us.map (fun n : Nat => (n : Int)))) (h1 : Ints .i64 w w.heap.size A1 ms) (hu : ∀ x ∈ us, x < 18446744073709551616) (hm : ∀ x ∈ ms, -9223372036854775808 ≤ x ∧ x ≤ 9223372036854775807) (n0 n1 : Nat) (e0 : us.length = n0) (e1 : ms.length = n1) (hl0 : n0 ≤ 50) (hl1 : n1 ≤ 50) :
    Calls Try.prog 7 #[.slice A0 n0 c0, .slice A1 n1 c1] w fun e w' => e = .returned (.bool true) ∧ Below w.heap.size w w' := by
  have H0 := Lib.hid h0
  have H1 := Lib.hid h1
  have HU := Lib.hid hu
  have HM := Lib.hid hm
  have E0 := Lib.hid e0
  have E1 := Lib.hid e1
  have d1 : decide (50 < (n0 : Int)) = false := by simp; omega
  have d2 : decide (50 < (n1 : Int)) = false := by simp; omega
  clear h0 h1 hu hm e0 e1
  go_enter Try.func7, Try.ntmps7
  go_wp2_with (go_at_call 10; refine (awake_any _).mono ?_; rintro e w1 ⟨rfl, hb1⟩)
  clear d1 d2
  go_loopw [6, 7] (fun s i wr => ∃ j : Nat, i = .int .i64 (j : Int) ∧ j ≤ n0 ∧ Acc w wr s (cU (us.take j))) (fun _ i _ => n0 - (intOf i).toNat)
  case atStart => exact ⟨0, rfl, by omega, none, 0, rfl, byt_nil _ _ _, hb1⟩
  case round =>
    obtain ⟨j, rfl, hj, A, c, rfl, hy, hb⟩ := hrel
    by_cases hlt : j < n0
    · obtain ⟨x, hx⟩ : ∃ x, us[j]? = some x := ⟨_, List.getElem?_eq_getElem (by rw [E0.out]; exact hlt)⟩
      obtain ⟨b, off, rfl, hcell⟩ := H0.out.at_ hb (j := j) (x := (x : Int)) (by rw [List.getElem?_map, hx]; rfl)
      have HC := Lib.hid (U_any A c x _ wr hy (by have := cU_part j HU.out (by rw [E0.out]; exact hl0); omega) (HU.out x (List.mem_of_getElem? hx)))
      rw [← cU_snoc hx] at HC
      have HAcc : Hid (Acc w wr (.slice A (cU (us.take j)).length c) (cU (us.take j))) := ⟨A, c, rfl, hy, hb⟩
      clear hx hy hb
      go_wp2_with (go_at_call 11; refine HC.out.mono ?_; rintro e w2 ⟨v2, rfl, o2, hb2⟩)
      have HN := Lib.hid (HAcc.out.next o2 hb2)
      clear o2 hb2
      go_roundw
      case rel => exact ⟨j + 1, by go_num, by omega, HN.out⟩
      case measure => simp [intOf]; omega
    · obtain rfl : n0 = j := by omega
      have e : us.take n0 = us := List.take_of_length_le (by rw [E0.out]; exact Nat.le_refl _)
      rw [e] at hy ⊢
      have HY := Lib.hid hy
      clear e hy hj hlt
      obtain ⟨wo, rfl⟩ : ∃ wo : World, wo = wr := ⟨_, rfl⟩
      go_wp2_with fail
      go_loopw [6, 8] (fun s i wr => ∃ j : Nat, i = .int .i64 (j : Int) ∧ j ≤ n1 ∧ Acc w wr s (cU us ++ cS (ms.take j))) (fun _ i _ => n1 - (intOf i).toNat)
      case atStart => exact ⟨0, rfl, by omega, A, c, by simp [cS], by simpa [cS] using HY.out, hb⟩
      case round =>
        obtain ⟨j, rfl, hj, A, c, rfl, hy, hb⟩ := hrel
        clear HY
        by_cases hlt : j < n1
        · obtain ⟨x, hx⟩ : ∃ x, ms[j]? = some x := ⟨_, List.getElem?_eq_getElem (by rw [E1.out]; exact hlt)⟩
          obtain ⟨b, off, rfl, hcell⟩ := H1.out.at_ hb (j := j) (x := x) hx
          have hxb := HM.out x (List.mem_of_getElem? hx)
          have hl3 : (cU us ++ cS (ms.take j)).length ≤ 1000 := by
            have q1 := cU_part us.length HU.out (by rw [E0.out]; exact hl0)
            rw [List.take_length] at q1
            have q2 := cS_part j HM.out (by rw [E1.out]; exact hl1)
            rw [List.length_append]
            omega
          have HC := Lib.hid (S_any A c x _ wr hy (by omega) hxb.1 hxb.2)
          rw [List.append_assoc, ← cS_snoc hx] at HC
          have HAcc : Hid (Acc w wr (.slice A (cU us ++ cS (ms.take j)).length c) (cU us ++ cS (ms.take j))) := ⟨A, c, rfl, hy, hb⟩
          generalize hg : (cU us ++ cS (ms.take j)).length = q at HC HAcc hl3 ⊢
          have HG := Lib.hid hg
          clear hx hy hb hxb hg
          go_wp2_with (go_at_call 13; refine HC.out.mono ?_; rintro e w2 ⟨v2, rfl, o2, hb2⟩)
          have HN := Lib.hid (Acc.next (by rw [HG.out]; exact HAcc.out) o2 hb2)
          clear o2 hb2
          go_roundw
          case rel => exact ⟨j + 1, by go_num, by omega, HN.out⟩
          case measure => simp [intOf]; omega
        · obtain rfl : n1 = j := by omega
          have e : ms.take n1 = ms := List.take_of_length_le (by rw [E1.out]; exact Nat.le_refl _)
          rw [e] at hy ⊢
          have HY := Lib.hid hy
          have hl3 : (cU us ++ cS ms).length ≤ 1000 := by
            have q1 := cU_part us.length HU.out (by rw [E0.out]; exact hl0)
            have q2 := cS_part ms.length HM.out (by rw [E1.out]; exact hl1)
            rw [List.take_length] at q1 q2
            rw [List.length_append]
            omega
          generalize hg : (cU us ++ cS ms).length = q at hl3 ⊢
          have HG := Lib.hid hg
          clear e hy hj hlt hg
          obtain ⟨wp, rfl⟩ : ∃ wp : World, wp = wr := ⟨_, rfl⟩
          have hbp := hb
          have HBP := Lib.hid hbp
          clear hb hbp
          go_wp2_with fail
          go_loopw [9, 10] (fun a i wr => ∃ j p : Nat, a = .int .i64 (p : Int) ∧ i = .int .i64 (j : Int) ∧ j ≤ n0 ∧ Here p (cU (us.take j)) ∧ Below wp.heap.size wp wr) (fun _ i _ => n0 - (intOf i).toNat)
          case atStart => exact ⟨0, 0, rfl, rfl, by omega, rfl, Below.refl _ _⟩
          case round =>
            obtain ⟨j, p, rfl, rfl, hj, hp, hb⟩ := hrel
            by_cases hlt : j < n0
            · obtain ⟨x, hx⟩ : ∃ x, us[j]? = some x := ⟨_, List.getElem?_eq_getElem (by rw [E0.out]; exact hlt)⟩
              obtain ⟨b, off, rfl, hcell⟩ := H0.out.at_ (HBP.out.trans (hb.mono HBP.out.size)) (j := j) (x := (x : Int)) (by rw [List.getElem?_map, hx]; rfl)
              have hxb := HU.out x (List.mem_of_getElem? hx)
              have hdrop := cU_rest (cS ms) hx
              have hp' : p = (cU (us.take j)).length := hp
              rw [← hp'] at hdrop
              have hple : p ≤ (cU us ++ cS ms).length := by
                rcases Nat.lt_or_ge (cU us ++ cS ms).length p with h | h
                · rw [List.drop_of_length_le (by omega)] at hdrop
                  have := congrArg List.length hdrop
                  rw [List.length_append, uB_len] at this
                  have := lenU_pos x
                  simp at *
                  omega
                · exact h
              have HC := Lib.hid (orderU wr A c p x _ _ ((HY.out.keep hb).mono hb.size) (by rw [HG.out]; exact hl3) (app_byte (cU_byte us) (cS_byte ms)) hple hdrop hxb)
              rw [HG.out] at HC
              have hlx := lenU_ten hxb
              obtain ⟨p2, hp2⟩ : ∃ p2, p2 = p + lenU x := ⟨_, rfl⟩
              rw [← hp2] at HC
              have HN : Hid (Here p2 (cU (us.take (j + 1)))) := by
                show _ = _
                rw [cU_snoc hx, List.length_append, uB_len, ← hp', hp2]
              have hq2 : p ≤ q := by rw [← HG.out]; exact hple
              clear hx hxb hdrop hp hp' hple hp2
              go_wp2_with fail
              refine HC.out.mono ?_
              rintro e w2 ⟨rfl, hb2⟩
              have hc2 : w2.cell? ⟨b, off + j, none⟩ = some (.int .u64 (x : Int)) := (hb2.cell (p := ⟨b, off + j, none⟩) (World.block_lt_of_cell? wr _ hcell)).trans hcell
              have hb3 := hb.trans (hb2.mono hb.size)
              clear hb hb2 hcell HC
              go_wp2_with fail
              go_roundw
              case rel => exact ⟨j + 1, p2, rfl, by go_num, by omega, HN.out, hb3⟩
              case measure => simp [intOf]; omega
            · obtain rfl : n0 = j := by omega
              have e : us.take n0 = us := List.take_of_length_le (by rw [E0.out]; exact Nat.le_refl _)
              rw [e] at hp
              have hp1 : p ≤ 1000 := by
                have q1 : (cU us ++ cS ms).length = q := HG.out
                have q2 : p = (cU us).length := hp
                rw [List.length_append] at q1
                omega
              have HP := Lib.hid hp
              clear e hp hj hlt
              obtain ⟨wq, rfl⟩ : ∃ wq : World, wq = wr := ⟨_, rfl⟩
              have HBQ := Lib.hid hb
              clear hb
              go_wp2_with fail
              go_loopw [9, 14] (fun a i wr => ∃ j p : Nat, a = .int .i64 (p : Int) ∧ i = .int .i64 (j : Int) ∧ j ≤ n1 ∧ Here p (cU us ++ cS (ms.take j)) ∧ Below wp.heap.size wp wr) (fun _ i _ => n1 - (intOf i).toNat)
              case atStart => exact ⟨0, p, rfl, rfl, by omega, by have h : p = (cU us).length := HP.out; show _ = _; simp [cS, h], HBQ.out⟩
              case round =>
                obtain ⟨j, p, rfl, rfl, hj, hp, hb⟩ := hrel
                clear HBQ HP hp1
                by_cases hlt : j < n1
                · obtain ⟨x, hx⟩ : ∃ x, ms[j]? = some x := ⟨_, List.getElem?_eq_getElem (by rw [E1.out]; exact hlt)⟩
                  obtain ⟨b, off, rfl, hcell⟩ := H1.out.at_ (HBP.out.trans (hb.mono HBP.out.size)) (j := j) (x := x) hx
                  have hxb := HM.out x (List.mem_of_getElem? hx)
                  have hdrop := cS_rest (cU us) hx
                  have hp' : p = (cU us ++ cS (ms.take j)).length := hp
                  rw [← hp'] at hdrop
                  have hple : p ≤ (cU us ++ cS ms).length := by
                    rcases Nat.lt_or_ge (cU us ++ cS ms).length p with h | h
                    · rw [List.drop_of_length_le (by omega)] at hdrop
                      have := congrArg List.length hdrop
                      rw [List.length_append, sB_len] at this
                      have := lenS_pos x
                      simp at *
                      omega
                    · exact h
                  have HC := Lib.hid (orderS wr A c p x _ _ ((HY.out.keep hb).mono hb.size) (by rw [HG.out]; exact hl3) (app_byte (cU_byte us) (cS_byte ms)) hple hdrop hxb.1 hxb.2)
                  rw [HG.out] at HC
                  obtain ⟨p2, hp2⟩ : ∃ p2, p2 = p + lenS x := ⟨_, rfl⟩
                  rw [← hp2] at HC
                  have HN : Hid (Here p2 (cU us ++ cS (ms.take (j + 1)))) := by
                    show _ = _
                    rw [cS_snoc hx, ← List.append_assoc, List.length_append, sB_len, ← hp', hp2]
                  have hq2 : p ≤ q := by rw [← HG.out]; exact hple
                  clear hx hxb hdrop hp hp' hple hp2
                  go_wp2_with fail
                  refine HC.out.mono ?_
                  rintro e w2 ⟨rfl, hb2⟩
                  have hc2 : w2.cell? ⟨b, off + j, none⟩ = some (.int .i64 x) := (hb2.cell (p := ⟨b, off + j, none⟩) (World.block_lt_of_cell? wr _ hcell)).trans hcell
                  have hb3 := hb.trans (hb2.mono hb.size)
                  clear hb hb2 hcell HC
                  go_wp2_with fail
                  go_roundw
                  case rel => exact ⟨j + 1, p2, rfl, by go_num, by omega, HN.out, hb3⟩
                  case measure => simp [intOf]; omega
                · obtain rfl : n1 = j := by omega
                  have e : ms.take n1 = ms := List.take_of_length_le (by rw [E1.out]; exact Nat.le_refl _)
                  rw [e] at hp
                  obtain rfl : q = p := by have h : p = (cU us ++ cS ms).length := hp; rw [h]; exact HG.out.symm
                  have HZ := Lib.hid (HBP.out.trans (hb.mono HBP.out.size))
                  clear e hp hb
                  go_wp2_with fail
                  go_ret
                  exact ⟨rfl, HZ.out⟩

set_option maxHeartbeats 400000 in
set_option maxRecDepth 100000 in
theorem order_big0 (A0 A1 : Option Addr) (n0 n1 c0 c1 : Nat) (w : World) (h : 50 < n0) (hm0 : n0 ≤ 9223372036854775807) :
    Calls Try.prog 7 #[.slice A0 n0 c0, .slice A1 n1 c1] w fun e w' => e = .returned (.bool true) ∧ Below w.heap.size w w' := by
  go_enter Try.func7, Try.ntmps7
  go_wp2_with (go_at_call 10; refine (awake_any _).mono ?_; rintro e w1 ⟨rfl, hb1⟩)
  go_ret
  exact ⟨rfl, hb1⟩
set_option maxHeartbeats 400000 in
set_option maxRecDepth 100000 in
theorem order_big1 (A0 A1 : Option Addr) (n0 n1 c0 c1 : Nat) (w : World) (h0 : n0 ≤ 50) (h : 50 < n1) (hm1 : n1 ≤ 9223372036854775807) :
    Calls Try.prog 7 #[.slice A0 n0 c0, .slice A1 n1 c1] w fun e w' => e = .returned (.bool true) ∧ Below w.heap.size w w' := by
  go_enter Try.func7, Try.ntmps7
  go_wp2_with (go_at_call 10; refine (awake_any _).mono ?_; rintro e w1 ⟨rfl, hb1⟩)
  go_ret
  exact ⟨rfl, hb1⟩

theorem order_any (a0 : Option Addr) (len0 cap0 : Nat) (z0 : List Int) (a1 : Option Addr) (len1 cap1 : Nat) (z1 : List Int) (w : World) (h0 : Came .u64 w a0 len0 cap0 z0) (h1 : Came .i64 w a1 len1 cap1 z1) :
    Calls Try.prog 7 #[.slice a0 len0 cap0, .slice a1 len1 cap1] w fun e w' => e = .returned (.bool true) ∧ Below w.heap.size w w' := by
  obtain ⟨i0, l0, f0, m0⟩ := h0.ints
  obtain ⟨i1, l1, f1, m1⟩ := h1.ints
  by_cases g0 : len0 ≤ 50
  · by_cases g1 : len1 ≤ 50
    · have hcast : ((z0.take len0).map Int.toNat).map (fun n : Nat => (n : Int)) = z0.take len0 := by
        rw [List.map_map]
        conv => rhs; rw [← List.map_id (z0.take len0)]
        refine List.map_congr_left fun x hx => ?_
        have := bounds_u64 (f0 x hx)
        simp
        omega
      refine order_core a0 a1 cap0 cap1 ((z0.take len0).map Int.toNat) (z1.take len1) w (by rw [hcast]; exact i0) i1 (fun x hx => ?_) (fun x hx => bounds_i64 (f1 x hx)) len0 len1 (by rw [List.length_map]; exact l0) l1 g0 g1
      obtain ⟨y, hy, rfl⟩ := List.mem_map.1 hx
      have := bounds_u64 (f0 y hy)
      omega
    · exact order_big1 a0 a1 len0 len1 cap0 cap1 w g0 (by omega) m1
  · exact order_big0 a0 a1 len0 len1 cap0 cap1 w (by omega) m0
end Go.Proofs.Ytognfgiekffmhaa.Leb
