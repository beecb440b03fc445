/- Values' types behind how many they are: by the program and by the document. -/
import Derived.Test.YtnminpbnlcgblaaTypAt
namespace Go.Proofs.Ytnminpbnlcgblaa.Typ
open Go.RowKit
set_option maxRecDepth 100000
set_option maxHeartbeats 1000000

/-- Why bytes do not begin with so many values' types: 0, if they do. -/
def vbad : List Int → Nat → Int
  | _, 0 => 0
  | [], _ + 1 => 2
  | c :: r, n + 1 => bif isV c then vbad r n else 3
theorem vbad_end (n : Nat) : vbad [] (n + 1) = 2 := rfl
theorem drop_cons {l : List Int} {k : Nat} (h : k < l.length) : l.drop k = l.getD k 0 :: l.drop (k + 1) := by
  rw [List.drop_eq_getElem_cons h]
  simp [h]
theorem vbad_at {l : List Int} {k n : Nat} (h : k < l.length) : vbad (l.drop k) (n + 1) = bif isV (l.getD k 0) then vbad (l.drop (k + 1)) n else 3 := by rw [drop_cons h]; rfl
theorem vbad_ways : ∀ (n : Nat) (l : List Int), (vbad l n = 0 ∧ n ≤ l.length ∧ ∀ x ∈ l.take n, isV x = true) ∨ vbad l n = 2 ∨ vbad l n = 3
  | 0, l => .inl ⟨by cases l <;> rfl, Nat.zero_le _, by simp⟩
  | n + 1, [] => .inr (.inl rfl)
  | n + 1, c :: r => by
    show ((bif isV c then vbad r n else 3) = 0 ∧ _ ∧ _) ∨ (bif isV c then vbad r n else 3) = 2 ∨ (bif isV c then vbad r n else 3) = 3
    cases hc : isV c with
    | false => exact .inr (.inr rfl)
    | true =>
      rcases vbad_ways n r with ⟨h1, h2, h3⟩ | h | h
      · exact .inl ⟨h1, by simp; omega, fun x hx => by
          rw [List.take_succ_cons] at hx
          rcases List.mem_cons.1 hx with rfl | hx
          · exact hc
          · exact h3 x hx⟩
      · exact .inr (.inl h)
      · exact .inr (.inr h)
theorem vbad_mk : ∀ (n : Nat) (l : List Int), n ≤ l.length → (∀ x ∈ l.take n, isV x = true) → vbad l n = 0
  | 0, l, _, _ => by cases l <;> rfl
  | n + 1, [], h, _ => by simp at h
  | n + 1, c :: r, h, hv => by
    show (bif isV c then vbad r n else 3) = 0
    rw [hv c (by simp)]
    exact vbad_mk n r (by simpa using h) fun x hx => hv x (by simp [hx])
/-- Values' types, the place behind, the error. -/
def vsN (l : List Int) (p n : Nat) (M : Int) : List Int × Int × Int := if M < (n : Int) then ([], 0, 4) else if vbad (l.drop p) n = 0 then ((l.drop p).take n, ((p + n : Nat) : Int), 0) else ([], 0, vbad (l.drop p) n)
def vs (l : List Int) (k : Nat) (M : Int) : List Int × Int × Int := match Leb.rdl Leb.fitU 32 (l.drop k) 0 0 with
  | .ok n m => vsN l (k + m / 7) n M
  | .short => ([], 0, 2)
  | .form => ([], 0, 3)
def VsTold (x : List Int × Int × Int) (w : World) (e : Ending) (w' : World) : Prop := ∃ o, e = .returned (.tuple #[o, .int .i64 x.2.1, .int .i64 x.2.2]) ∧ OwnB w' w.heap.size o x.1 ∧ Below w.heap.size w w'
theorem VsTold.mk {x : List Int × Int × Int} {w w' : World} {o : Value} {a b : Int} (h : OwnB w' w.heap.size o x.1) (h1 : x.2.1 = a) (h2 : x.2.2 = b) (hb : Below w.heap.size w w') : VsTold x w (.returned (.tuple #[o, .int .i64 a, .int .i64 b])) w' := by
  subst h1 h2
  exact ⟨o, rfl, h, hb⟩
theorem take_more {l : List Int} {k : Nat} (h : k < l.length) : l.take (k + 1) = l.take k ++ [l.getD k 0] := by
  rw [List.take_succ_eq_append_getElem h]
  simp [h]
theorem drop_getD (l : List Int) (p k : Nat) : (l.drop p).getD k 0 = l.getD (p + k) 0 := by
  rw [List.getD_eq_getElem?_getD, List.getD_eq_getElem?_getD, List.getElem?_drop]
theorem vals_err (v : Value) (at_ e M : Int) (w : World) (he : (e != 0) = true)
    (h : Calls Try.prog 32 #[v, .int .i64 at_, .int .i64 32] w (Leb.RTold w 0 0 e .u64)) :
    Calls Try.prog 30 #[v, .int .i64 at_, .int .i64 M] w (VsTold ([], 0, e) w) := by
  have H := Lib.hid h
  clear h
  go_enter Try.func30, Try.ntmps30
  go_wp2_with fail
  refine H.out.mono ?_
  rintro en w1 ⟨rfl, hb⟩
  have HB := Lib.hid hb
  clear hb
  go_wp2_with fail
  go_ret3
  exact ⟨_, rfl, ownB_nil _ _, HB.out⟩
theorem vals_limit (v : Value) (n p : Nat) (at_ M : Int) (w : World) (hM : M = 16 ∨ M = 1) (hn : M < (n : Int))
    (h : Calls Try.prog 32 #[v, .int .i64 at_, .int .i64 32] w (Leb.RTold w (n : Int) (p : Int) 0 .u64)) :
    Calls Try.prog 30 #[v, .int .i64 at_, .int .i64 M] w (VsTold ([], 0, 4) w) := by
  have H := Lib.hid h
  have t1 : decide (M < (n : Int)) = true := decide_eq_true hn
  have hM2 : IntKind.u64.wrap M = M := by rw [IntKind.wrap_u64]; omega
  clear h hM
  go_enter Try.func30, Try.ntmps30
  go_wp2_with fail
  refine H.out.mono ?_
  rintro en w1 ⟨rfl, hb⟩
  have HB := Lib.hid hb
  clear hb
  go_wp2_with fail
  go_ret3
  exact ⟨_, rfl, ownB_nil _ _, HB.out⟩
theorem vals_in (v : Value) (l : List Int) (n p : Nat) (at_ M : Int) (w : World) (hv : Sl w v l) (hl : l.length ≤ 1000000) (hp : p ≤ l.length) (hM : M = 16 ∨ M = 1) (hn : ¬ M < (n : Int))
    (h : Calls Try.prog 32 #[v, .int .i64 at_, .int .i64 32] w (Leb.RTold w (n : Int) (p : Int) 0 .u64)) :
    Calls Try.prog 30 #[v, .int .i64 at_, .int .i64 M] w (VsTold (vsN l p n M) w) := by
  have H := Lib.hid h
  have t1 : decide (M < (n : Int)) = false := decide_eq_false hn
  have hM2 : IntKind.u64.wrap M = M := by rw [IntKind.wrap_u64]; omega
  have HV := Lib.hid hv
  have hn16 : n ≤ 16 := by omega
  have HN : Hid (vsN l p n M = if vbad (l.drop p) n = 0 then ((l.drop p).take n, ((p + n : Nat) : Int), 0) else ([], 0, vbad (l.drop p) n)) := by
    show vsN l p n M = _
    exact if_neg hn
  clear h hv hM hn
  go_enter Try.func30, Try.ntmps30
  go_wp2_with fail
  refine H.out.mono ?_
  rintro en w1 ⟨rfl, hb⟩
  have HB := Lib.hid hb
  clear hb
  go_wp2_with fail
  go_loopw [1, 11, 30] (fun a o i wr => ∃ k q : Nat, k ≤ n ∧ q ≤ l.length ∧ q = p + k ∧ i = .int .u64 (k : Int) ∧ a = .int .i64 (q : Int) ∧ OwnB wr w.heap.size o ((l.drop p).take k) ∧ vbad (l.drop q) (n - k) = vbad (l.drop p) n ∧ Below w.heap.size w wr) (fun _ _ i _ => n - (intOf i).toNat)
  case atStart => exact ⟨0, p, Nat.zero_le _, hp, rfl, rfl, rfl, ownB_nil _ _, rfl, HB.out⟩
  case round =>
    obtain ⟨k, q, hk, hpk, hqe, rfl, rfl, ho, hbad, hbel⟩ := hrel
    have HQ := Lib.hid hqe
    clear hqe
    have HO := Lib.hid ho
    have HBad := Lib.hid hbad
    have HW := Lib.hid hbel
    clear ho hbad hbel
    have HVal := Lib.hid (val_any v l (q : Int) wr (HV.out.keep HW.out) (by omega))
    by_cases hlt : k < n
    · by_cases hend : q = l.length
      · rw [vl_err (l := l) (at_ := (q : Int)) (by rw [bt_end (by omega)]; decide), bt_end (by omega)] at HVal
        have HE : Hid (vbad (l.drop p) n = 2) := by
          show _ = _
          rw [← HBad.out, hend, List.drop_length, show n - k = (n - k - 1) + 1 from by omega]
          exact vbad_end _
        have hlt2 : decide ((k : Int) < (n : Int)) = true := by simp; omega
        clear hend
        go_wp2_with fail
        refine HVal.out.mono ?_
        rintro e w2 ⟨rfl, rfl⟩
        go_wp2_with fail
        go_ret3
        rw [HN.out, HE.out]
        exact ⟨_, rfl, ownB_nil _ _, HW.out⟩
      · have hin : q < l.length := by omega
        rw [vl_in hin] at HVal
        have hst := vbad_at (l := l) (k := q) (n := n - k - 1) hin
        rw [show n - k - 1 + 1 = n - k from by omega, HBad.out] at hst
        have htk := take_more (l := l.drop p) (k := k) (by rw [List.length_drop]; have := HQ.out; omega)
        rw [drop_getD, ← HQ.out] at htk
        revert HVal hst htk
        generalize l.getD q 0 = c
        intro HVal hst htk
        have HT := Lib.hid htk
        clear htk
        cases hc : isV c with
        | true =>
          rw [hc] at HVal hst
          have HS := Lib.hid hst
          have hlen : ((l.drop p).take k).length ≤ 10000000 := by rw [List.length_take]; omega
          have hsz : w.heap.size ≤ wr.heap.size := HW.out.size
          clear hst hc
          go_wp2_with fail
          refine HVal.out.mono ?_
          rintro e w2 ⟨rfl, rfl⟩
          go_wp2_with (at_builtin; refine wp_one wr rfl (.tmp 42) (.tmp 44) rfl w.heap.size _ _ c rfl HO.out rfl hlen hsz ?_; intro v2 w2 ho2 hb2)
          go_roundw
          case rel => exact ⟨k + 1, q + 1, by omega, by omega, by have := HQ.out; omega, by go_num, by go_num, by rw [HT.out]; exact ho2, by rw [HS.out]; rfl, HW.out.trans hb2⟩
          case measure => simp [intOf]; omega
        | false =>
          rw [hc] at HVal hst
          have HS := Lib.hid (show vbad (l.drop p) n = 3 from hst)
          clear hst hc
          go_wp2_with fail
          refine HVal.out.mono ?_
          rintro e w2 ⟨rfl, rfl⟩
          go_wp2_with fail
          go_ret3
          rw [HN.out, HS.out]
          exact ⟨_, rfl, ownB_nil _ _, HW.out⟩
    · obtain rfl : k = n := by omega
      have HE : Hid (vbad (l.drop p) k = 0) := by
        show _ = _
        rw [← HBad.out, Nat.sub_self]
        cases l.drop q <;> rfl
      clear HVal
      go_wp2_with fail
      go_ret3
      rw [HN.out, if_pos HE.out, ← HQ.out]
      exact ⟨_, rfl, HO.out, HW.out⟩
theorem vals_any (v : Value) (l : List Int) (k : Nat) (M : Int) (w : World) (hby : ∀ x ∈ l, 0 ≤ x ∧ x < 256) (hv : Sl w v l) (hl : l.length ≤ 1000000) (hk : k ≤ l.length) (hM : M = 16 ∨ M = 1) :
    Calls Try.prog 30 #[v, .int .i64 (k : Int), .int .i64 M] w (VsTold (vs l k M) w) := by
  have hv' := hv
  obtain ⟨A, c, rfl, _⟩ := hv'
  have hR := Leb.ReadU_is A c 32 k l w hv.leb hl (by255 hby) (by omega) (by omega) hk
  unfold vs
  cases hr : Leb.rdl Leb.fitU 32 (l.drop k) 0 0 with
  | short => rw [hr] at hR; exact vals_err _ _ 2 M w (by decide) hR
  | form => rw [hr] at hR; exact vals_err _ _ 3 M w (by decide) hR
  | ok n m =>
    rw [hr] at hR
    have hR : Calls Try.prog 32 #[.slice A l.length c, .int .i64 (k : Int), .int .i64 32] w (Leb.RTold w (n : Int) ((k + m / 7 : Nat) : Int) 0 .u64) := hR
    have hm := rdl_len _ _ _ _ _ hr
    rw [List.length_drop] at hm
    show Calls Try.prog 30 _ w (VsTold (vsN l (k + m / 7) n M) w)
    by_cases hn : M < (n : Int)
    · rw [show vsN l (k + m / 7) n M = ([], 0, 4) from if_pos hn]
      exact vals_limit _ n _ _ M w hM hn hR
    · exact vals_in _ l n _ _ M w hv hl (by omega) hM hn hR
theorem rvals_err (v : Value) (at_ e M : Int) (w : World) (he : (e != 0) = true)
    (h : Calls Try.prog 33 #[v, .int .i64 at_, .int .i64 32] w (Leb.RTold w 0 0 e .u64)) :
    Calls Try.prog 31 #[v, .int .i64 at_, .int .u64 M] w (VsTold ([], 0, e) w) := by
  have H := Lib.hid h
  clear h
  go_enter Try.func31, Try.ntmps31
  go_wp2_with fail
  refine H.out.mono ?_
  rintro en w1 ⟨rfl, hb⟩
  have HB := Lib.hid hb
  clear hb
  go_wp2_with fail
  go_ret3
  exact ⟨_, rfl, ownB_nil _ _, HB.out⟩
theorem rvals_limit (v : Value) (n p : Nat) (at_ M : Int) (w : World) (hM : M = 16 ∨ M = 1) (hn : M < (n : Int))
    (h : Calls Try.prog 33 #[v, .int .i64 at_, .int .i64 32] w (Leb.RTold w (n : Int) (p : Int) 0 .u64)) :
    Calls Try.prog 31 #[v, .int .i64 at_, .int .u64 M] w (VsTold ([], 0, 4) w) := by
  have H := Lib.hid h
  have t1 : decide (M < (n : Int)) = true := decide_eq_true hn
  have hM2 : IntKind.u64.wrap M = M := by rw [IntKind.wrap_u64]; omega
  clear h hM
  go_enter Try.func31, Try.ntmps31
  go_wp2_with fail
  refine H.out.mono ?_
  rintro en w1 ⟨rfl, hb⟩
  have HB := Lib.hid hb
  clear hb
  go_wp2_with fail
  go_ret3
  exact ⟨_, rfl, ownB_nil _ _, HB.out⟩
theorem rvals_in (v : Value) (l : List Int) (n p : Nat) (at_ M : Int) (w : World) (hv : Sl w v l) (hl : l.length ≤ 1000000) (hp : p ≤ l.length) (hM : M = 16 ∨ M = 1) (hn : ¬ M < (n : Int))
    (h : Calls Try.prog 33 #[v, .int .i64 at_, .int .i64 32] w (Leb.RTold w (n : Int) (p : Int) 0 .u64)) :
    Calls Try.prog 31 #[v, .int .i64 at_, .int .u64 M] w (VsTold (vsN l p n M) w) := by
  have H := Lib.hid h
  have t1 : decide (M < (n : Int)) = false := decide_eq_false hn
  have hM2 : IntKind.u64.wrap M = M := by rw [IntKind.wrap_u64]; omega
  have HV := Lib.hid hv
  have hn16 : n ≤ 16 := by omega
  have HN : Hid (vsN l p n M = if vbad (l.drop p) n = 0 then ((l.drop p).take n, ((p + n : Nat) : Int), 0) else ([], 0, vbad (l.drop p) n)) := by
    show vsN l p n M = _
    exact if_neg hn
  clear h hv hM hn
  go_enter Try.func31, Try.ntmps31
  go_wp2_with fail
  refine H.out.mono ?_
  rintro en w1 ⟨rfl, hb⟩
  have HB := Lib.hid hb
  clear hb
  go_wp2_with fail
  go_loopw [1, 11, 12] (fun a o i wr => ∃ k q : Nat, k ≤ n ∧ q ≤ l.length ∧ q = p + k ∧ i = .int .u64 (k : Int) ∧ a = .int .i64 (q : Int) ∧ OwnB wr w.heap.size o ((l.drop p).take k) ∧ vbad (l.drop q) (n - k) = vbad (l.drop p) n ∧ Below w.heap.size w wr) (fun _ _ i _ => n - (intOf i).toNat)
  case atStart => exact ⟨0, p, Nat.zero_le _, hp, rfl, rfl, rfl, ownB_nil _ _, rfl, HB.out⟩
  case round =>
    obtain ⟨k, q, hk, hpk, hqe, rfl, rfl, ho, hbad, hbel⟩ := hrel
    have HQ := Lib.hid hqe
    clear hqe
    have HO := Lib.hid ho
    have HBad := Lib.hid hbad
    have HW := Lib.hid hbel
    clear ho hbad hbel
    have HVal := Lib.hid (rval_any v l (q : Int) wr (HV.out.keep HW.out) (by omega))
    by_cases hlt : k < n
    · by_cases hend : q = l.length
      · rw [vl_err (l := l) (at_ := (q : Int)) (by rw [bt_end (by omega)]; decide), bt_end (by omega)] at HVal
        have HE : Hid (vbad (l.drop p) n = 2) := by
          show _ = _
          rw [← HBad.out, hend, List.drop_length, show n - k = (n - k - 1) + 1 from by omega]
          exact vbad_end _
        have hlt2 : decide ((k : Int) < (n : Int)) = true := by simp; omega
        clear hend
        go_wp2_with fail
        refine HVal.out.mono ?_
        rintro e w2 ⟨rfl, rfl⟩
        go_wp2_with fail
        go_ret3
        rw [HN.out, HE.out]
        exact ⟨_, rfl, ownB_nil _ _, HW.out⟩
      · have hin : q < l.length := by omega
        rw [vl_in hin] at HVal
        have hst := vbad_at (l := l) (k := q) (n := n - k - 1) hin
        rw [show n - k - 1 + 1 = n - k from by omega, HBad.out] at hst
        have htk := take_more (l := l.drop p) (k := k) (by rw [List.length_drop]; have := HQ.out; omega)
        rw [drop_getD, ← HQ.out] at htk
        revert HVal hst htk
        generalize l.getD q 0 = c
        intro HVal hst htk
        have HT := Lib.hid htk
        clear htk
        cases hc : isV c with
        | true =>
          rw [hc] at HVal hst
          have HS := Lib.hid hst
          have hlen : ((l.drop p).take k).length ≤ 10000000 := by rw [List.length_take]; omega
          have hsz : w.heap.size ≤ wr.heap.size := HW.out.size
          clear hst hc
          go_wp2_with fail
          refine HVal.out.mono ?_
          rintro e w2 ⟨rfl, rfl⟩
          go_wp2_with (at_builtin; refine wp_one wr rfl (.tmp 44) (.tmp 46) rfl w.heap.size _ _ c rfl HO.out rfl hlen hsz ?_; intro v2 w2 ho2 hb2)
          go_roundw
          case rel => exact ⟨k + 1, q + 1, by omega, by omega, by have := HQ.out; omega, by go_num, by go_num, by rw [HT.out]; exact ho2, by rw [HS.out]; rfl, HW.out.trans hb2⟩
          case measure => simp [intOf]; omega
        | false =>
          rw [hc] at HVal hst
          have HS := Lib.hid (show vbad (l.drop p) n = 3 from hst)
          clear hst hc
          go_wp2_with fail
          refine HVal.out.mono ?_
          rintro e w2 ⟨rfl, rfl⟩
          go_wp2_with fail
          go_ret3
          rw [HN.out, HS.out]
          exact ⟨_, rfl, ownB_nil _ _, HW.out⟩
    · obtain rfl : k = n := by omega
      have HE : Hid (vbad (l.drop p) k = 0) := by
        show _ = _
        rw [← HBad.out, Nat.sub_self]
        cases l.drop q <;> rfl
      clear HVal
      go_wp2_with fail
      go_ret3
      rw [HN.out, if_pos HE.out, ← HQ.out]
      exact ⟨_, rfl, HO.out, HW.out⟩
theorem rvals_any (v : Value) (l : List Int) (k : Nat) (M : Int) (w : World) (hby : ∀ x ∈ l, 0 ≤ x ∧ x < 256) (hv : Sl w v l) (hl : l.length ≤ 1000000) (hk : k ≤ l.length) (hM : M = 16 ∨ M = 1) :
    Calls Try.prog 31 #[v, .int .i64 (k : Int), .int .u64 M] w (VsTold (vs l k M) w) := by
  have hv' := hv
  obtain ⟨A, c, rfl, _⟩ := hv'
  have hR := Leb.refReadU_is A c 32 k l w hv.leb hl (by255 hby) (by omega) (by omega) hk
  unfold vs
  cases hr : Leb.rdl Leb.fitU 32 (l.drop k) 0 0 with
  | short => rw [hr] at hR; exact rvals_err _ _ 2 M w (by decide) hR
  | form => rw [hr] at hR; exact rvals_err _ _ 3 M w (by decide) hR
  | ok n m =>
    rw [hr] at hR
    have hR : Calls Try.prog 33 #[.slice A l.length c, .int .i64 (k : Int), .int .i64 32] w (Leb.RTold w (n : Int) ((k + m / 7 : Nat) : Int) 0 .u64) := hR
    have hm := rdl_len _ _ _ _ _ hr
    rw [List.length_drop] at hm
    show Calls Try.prog 31 _ w (VsTold (vsN l (k + m / 7) n M) w)
    by_cases hn : M < (n : Int)
    · rw [show vsN l (k + m / 7) n M = ([], 0, 4) from if_pos hn]
      exact rvals_limit _ n _ _ M w hM hn hR
    · exact rvals_in _ l n _ _ M w hv hl (by omega) hM hn hR
end Go.Proofs.Ytnminpbnlcgblaa.Typ
