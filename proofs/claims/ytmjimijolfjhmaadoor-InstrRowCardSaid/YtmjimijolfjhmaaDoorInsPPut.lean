/- What the program lays of an instruction that may be; Put. -/
import Derived.Test.YtmjimijolfjhmaaDoorInsPLaidB
namespace Go.Proofs.YtmjimijolfjhmaaDoor.Ins
open Go.RowKit Ints Typ
set_option maxRecDepth 100000
set_option maxHeartbeats 1000000
set_option linter.unusedVariables false

/-- The bytes of an instruction. -/
def ib (x : Ins) : List Int :=
  if kd x.op = 2 then [x.op] ++ [if x.A = 0 then 64 else x.A]
  else if kd x.op = 3 then [x.op] ++ Leb.uB x.A.toNat
  else if kd x.op = 4 then [x.op] ++ Leb.uB x.L.length ++ uLs x.L ++ Leb.uB x.A.toNat
  else if kd x.op = 5 then [x.op] ++ Leb.uB x.A.toNat ++ [0]
  else if kd x.op = 6 then [x.op] ++ Leb.uB x.A.toNat ++ Leb.uB x.B.toNat
  else if kd x.op = 7 then [x.op] ++ [0]
  else if kd x.op = 8 then [x.op] ++ Leb.sB (sgT 127 x.K)
  else if kd x.op = 9 then [x.op] ++ Leb.sB (sgT 126 x.K)
  else [x.op]
theorem okN_of {a : Int} (h : okN a = true) : 0 ≤ a ∧ a ≤ 4294967295 := by unfold okN at h; simpa using h
theorem okN_nat {a : Int} (h : okN a = true) : ((a.toNat : Nat) : Int) = a := by have := okN_of h; omega
theorem okN_wrap {a : Int} (h : okN a = true) : IntKind.u64.wrap a = a := by have := okN_of h; rw [IntKind.wrap_u64]; omega
theorem uB_ten {a : Nat} (h : a ≤ 4294967295) : (Leb.uB a).length ≤ 10 := by rw [Leb.uB_len]; exact Leb.lenU_ten (by omega)
theorem sg_range (t v : Int) (hv : u64R v) : -9223372036854775808 ≤ sgT t v ∧ sgT t v ≤ 9223372036854775807 := by
  unfold u64R at hv
  unfold sgT sg32 sg64
  repeat' split
  all_goals omega
theorem U_sl {W : World} {v : Value} {l : List Int} {a : Int} (ha : okN a = true) (hl : l.length ≤ 1000000) (h : Sl W v l) : Calls Tryd.prog 55 #[v, .int .u64 a] W (Leb.Laid W (l ++ Leb.uB a.toNat)) := by
  obtain ⟨A, c, hv, _⟩ := id h
  subst hv
  have := Leb.U_any A c a.toNat l W h.leb hl (by have := okN_of ha; omega)
  rw [okN_nat ha] at this
  exact this
theorem S_sl {W : World} {v : Value} {l : List Int} {a : Int} (h1 : -9223372036854775808 ≤ a) (h2 : a ≤ 9223372036854775807) (hl : l.length ≤ 1000000) (h : Sl W v l) : Calls Tryd.prog 56 #[v, .int .i64 a] W (Leb.Laid W (l ++ Leb.sB a)) := by
  obtain ⟨A, c, hv, _⟩ := id h
  subst hv
  exact Leb.S_any A c a l W h.leb hl h1 h2
theorem plaid_any {x : Ins} {o : Value} {w : World} (hx : SlI w o x.L) (hu : u64R x.K) (hT : KTab w) (hs : saneI x = true) : Calls Tryd.prog 27 #[iv x o] w (SlTold (ib x) w) := by
  obtain ⟨P, c, ho, _⟩ := id hx
  subst ho
  have hr := kd_range x.op
  have hK : ∀ k : Int, kd x.op = k → ∀ W, Below w.heap.size w W → Calls Tryd.prog 21 #[.int .i64 x.op] W fun en w' => en = .returned (.int .i64 k) ∧ Below W.heap.size W w' := fun k hk W hW => by
    have := kind_told x.op W (hT.keep hW)
    unfold KdTold at this
    rwa [hk] at this
  unfold iv
  have hk : kd x.op = 0 ∨ kd x.op = 1 ∨ kd x.op = 2 ∨ kd x.op = 3 ∨ kd x.op = 4 ∨ kd x.op = 5 ∨ kd x.op = 6 ∨ kd x.op = 7 ∨ kd x.op = 8 ∨ kd x.op = 9 := by omega
  have hsg : ∀ t W, Calls Tryd.prog 57 #[.int .u8 t, .int .u64 x.K] W fun en w' => en = .returned (.int .i64 (sgT t x.K)) ∧ W = w' := fun t W => sgn_any t x.K W hu
  have wo : kd x.op ≠ 0 → IntKind.u8.wrap x.op = x.op := fun h => by have := kd_code h; rw [IntKind.wrap_u8]; omega
  rw [saneI_eq] at hs
  rcases hk with hk | hk | hk | hk | hk | hk | hk | hk | hk | hk <;> rw [hk] at hs wo
  · rw [saneK_0] at hs
    exact absurd hs (by simp)
  · rw [show ib x = [x.op] from by simp [ib, hk]]
    exact plaid_1 _ _ _ _ P _ c w (wo (by decide)) (hK 1 hk)
  · rw [show ib x = [x.op] ++ [if x.A = 0 then 64 else x.A] from by simp [ib, hk]]
    rw [saneK_2, Bool.and_eq_true] at hs
    have hA : x.A = 0 ∨ x.A = 127 ∨ x.A = 126 := by simpa [or_assoc] using hs.1
    refine plaid_2 _ _ _ _ P _ c w _ (wo (by decide)) (hK 2 hk) fun W => rbyte_core x.A _ W _ rfl ?_
    rcases hA with h | h | h <;> rw [h] <;> decide
  · rw [show ib x = [x.op] ++ Leb.uB x.A.toNat from by simp [ib, hk]]
    rw [saneK_3, Bool.and_eq_true] at hs
    exact plaid_3 _ _ _ _ P _ c w _ (wo (by decide)) (hK 3 hk) (okN_wrap hs.1) fun W v hv => U_sl hs.1 (by simp) hv
  · rw [show ib x = [x.op] ++ Leb.uB x.L.length ++ uLs x.L ++ Leb.uB x.A.toNat from by simp [ib, hk]]
    rw [saneK_4, Bool.and_eq_true, Bool.and_eq_true, Bool.and_eq_true] at hs
    obtain ⟨⟨⟨hall, hlen⟩, hA⟩, _⟩ := hs
    have hlen : x.L.length ≤ 64 := by have := of_decide_eq_true hlen; omega
    have hok : okN (x.L.length : Int) = true := by unfold okN; simp; omega
    have hu1 := uB_ten (a := x.L.length) (by omega)
    have hu2 := uLs_len x.L hall
    refine plaid_4 _ _ _ _ P _ c w x.L ([x.op] ++ Leb.uB x.L.length) _ rfl hx hall (wo (by decide)) (hK 4 hk) (okN_wrap hA) (okN_wrap hok) hlen ?_ ?_ ?_
    · intro W v hv
      have := U_sl hok (by simp) hv
      rw [Int.toNat_natCast] at this
      exact this
    · intro W v k hk' hv
      have hg : okN (x.L.getD k 0) = true := List.all_eq_true.1 hall _ (by rw [List.getD_eq_getElem?_getD, List.getElem?_eq_getElem hk']; simp)
      have ht := uLs_len (x.L.take k) (List.all_eq_true.2 fun y hy => List.all_eq_true.1 hall y (List.mem_of_mem_take hy))
      have hlt : (x.L.take k).length ≤ 64 := by rw [List.length_take]; omega
      have := U_sl hg (by simp only [List.length_append, List.length_singleton]; omega) hv
      rw [List.append_assoc, uLs_take hk'] at this
      exact this
    · intro W v hv
      exact U_sl hA (by simp only [List.length_append, List.length_singleton]; omega) hv
  · rw [show ib x = [x.op] ++ Leb.uB x.A.toNat ++ [0] from by simp [ib, hk]]
    rw [saneK_5, Bool.and_eq_true] at hs
    have hu1 := uB_ten (a := x.A.toNat) (by have := okN_of hs.1; omega)
    exact plaid_5 _ _ _ _ P _ c w _ (wo (by decide)) (hK 5 hk) (okN_wrap hs.1) (by simp only [List.length_append, List.length_singleton]; omega) fun W v hv => U_sl hs.1 (by simp) hv
  · rw [show ib x = [x.op] ++ Leb.uB x.A.toNat ++ Leb.uB x.B.toNat from by simp [ib, hk]]
    rw [saneK_6, Bool.and_eq_true, Bool.and_eq_true] at hs
    have hu1 := uB_ten (a := x.A.toNat) (by have := okN_of hs.1.1; omega)
    exact plaid_6 _ _ _ _ P _ c w _ _ (wo (by decide)) (hK 6 hk) (okN_wrap hs.1.1) (okN_wrap hs.1.2) (fun W v hv => U_sl hs.1.1 (by simp) hv) (fun W v hv => U_sl hs.1.2 (by simp only [List.length_append, List.length_singleton]; omega) hv)
  · rw [show ib x = [x.op] ++ [0] from by simp [ib, hk]]
    exact plaid_7 _ _ _ _ P _ c w (wo (by decide)) (hK 7 hk)
  · rw [show ib x = [x.op] ++ Leb.sB (sgT 127 x.K) from by simp [ib, hk]]
    have hg := sg_range 127 x.K hu
    exact plaid_8 _ _ _ _ P _ c w _ _ (wo (by decide)) (hK 8 hk) (hsg 127) fun W v hv => S_sl hg.1 hg.2 (by simp) hv
  · rw [show ib x = [x.op] ++ Leb.sB (sgT 126 x.K) from by simp [ib, hk]]
    have hg := sg_range 126 x.K hu
    exact plaid_9 _ _ _ _ P _ c w _ _ (wo (by decide)) (hK 9 hk) (hsg 126) fun W v hv => S_sl hg.1 hg.2 (by simp) hv
theorem sB_ten {a : Int} (h1 : -9223372036854775808 ≤ a) (h2 : a ≤ 9223372036854775807) : (Leb.sB a).length ≤ 10 := by rw [Leb.sB_len]; exact Leb.lenS_ten h1 h2
/-- What is known of the bytes of an instruction that may be. -/
theorem ib_facts {x : Ins} (hu : u64R x.K) (hs : saneI x = true) : 0 < (ib x).length ∧ (ib x).length ≤ 700 ∧ (∀ y ∈ ib x, 0 ≤ y ∧ y < 256) ∧ ib x = [x.op] ++ (ib x).drop 1 := by
  have hr := kd_range x.op
  have hk : kd x.op = 0 ∨ kd x.op = 1 ∨ kd x.op = 2 ∨ kd x.op = 3 ∨ kd x.op = 4 ∨ kd x.op = 5 ∨ kd x.op = 6 ∨ kd x.op = 7 ∨ kd x.op = 8 ∨ kd x.op = 9 := by omega
  have hU : ∀ n : Nat, ∀ y ∈ Leb.uB n, 0 ≤ y ∧ y < 256 := fun n y hy => by have := Leb.uB_byte n y hy; omega
  have hS : ∀ n : Int, ∀ y ∈ Leb.sB n, 0 ≤ y ∧ y < 256 := fun n y hy => by have := Leb.sB_byte n y hy; omega
  have hop : kd x.op ≠ 0 → 0 ≤ x.op ∧ x.op < 256 := fun h => by have := kd_code h; omega
  rw [saneI_eq] at hs
  rcases hk with hk | hk | hk | hk | hk | hk | hk | hk | hk | hk <;> rw [hk] at hs hop
  · rw [saneK_0] at hs
    exact absurd hs (by simp)
  · rw [show ib x = [x.op] from by simp [ib, hk]]
    exact ⟨by simp, by simp, by simpa using hop, by simp⟩
  · rw [show ib x = [x.op] ++ [if x.A = 0 then 64 else x.A] from by simp [ib, hk]]
    rw [saneK_2, Bool.and_eq_true] at hs
    have hA : x.A = 0 ∨ x.A = 127 ∨ x.A = 126 := by simpa [or_assoc] using hs.1
    refine ⟨by simp, by simp, ?_, by simp⟩
    intro y hy
    rcases List.mem_append.1 hy with hy | hy
    · rw [List.mem_singleton.1 hy]; exact hop (by decide)
    · rw [List.mem_singleton.1 hy]; rcases hA with h | h | h <;> rw [h] <;> decide
  · rw [show ib x = [x.op] ++ Leb.uB x.A.toNat from by simp [ib, hk]]
    rw [saneK_3, Bool.and_eq_true] at hs
    have hu1 := uB_ten (a := x.A.toNat) (by have := okN_of hs.1; omega)
    refine ⟨by simp, by simp only [List.length_append, List.length_singleton]; omega, ?_, by simp⟩
    intro y hy
    rcases List.mem_append.1 hy with hy | hy
    · rw [List.mem_singleton.1 hy]; exact hop (by decide)
    · exact hU _ y hy
  · rw [show ib x = [x.op] ++ Leb.uB x.L.length ++ uLs x.L ++ Leb.uB x.A.toNat from by simp [ib, hk]]
    rw [saneK_4, Bool.and_eq_true, Bool.and_eq_true, Bool.and_eq_true] at hs
    obtain ⟨⟨⟨hall, hlen⟩, hA⟩, _⟩ := hs
    have hlen : x.L.length ≤ 64 := by have := of_decide_eq_true hlen; omega
    have hu1 := uB_ten (a := x.L.length) (by omega)
    have hu2 := uLs_len x.L hall
    have hu3 := uB_ten (a := x.A.toNat) (by have := okN_of hA; omega)
    refine ⟨by simp, by simp only [List.length_append, List.length_singleton]; omega, ?_, by simp⟩
    intro y hy
    rcases List.mem_append.1 hy with hy | hy
    · rcases List.mem_append.1 hy with hy | hy
      · rcases List.mem_append.1 hy with hy | hy
        · rw [List.mem_singleton.1 hy]; exact hop (by decide)
        · exact hU _ y hy
      · obtain ⟨z, _, hz⟩ := List.mem_flatMap.1 hy
        exact hU _ y hz
    · exact hU _ y hy
  · rw [show ib x = [x.op] ++ Leb.uB x.A.toNat ++ [0] from by simp [ib, hk]]
    rw [saneK_5, Bool.and_eq_true] at hs
    have hu1 := uB_ten (a := x.A.toNat) (by have := okN_of hs.1; omega)
    refine ⟨by simp, by simp only [List.length_append, List.length_singleton]; omega, ?_, by simp⟩
    intro y hy
    rcases List.mem_append.1 hy with hy | hy
    · rcases List.mem_append.1 hy with hy | hy
      · rw [List.mem_singleton.1 hy]; exact hop (by decide)
      · exact hU _ y hy
    · rw [List.mem_singleton.1 hy]; decide
  · rw [show ib x = [x.op] ++ Leb.uB x.A.toNat ++ Leb.uB x.B.toNat from by simp [ib, hk]]
    rw [saneK_6, Bool.and_eq_true, Bool.and_eq_true] at hs
    have hu1 := uB_ten (a := x.A.toNat) (by have := okN_of hs.1.1; omega)
    have hu2 := uB_ten (a := x.B.toNat) (by have := okN_of hs.1.2; omega)
    refine ⟨by simp, by simp only [List.length_append, List.length_singleton]; omega, ?_, by simp⟩
    intro y hy
    rcases List.mem_append.1 hy with hy | hy
    · rcases List.mem_append.1 hy with hy | hy
      · rw [List.mem_singleton.1 hy]; exact hop (by decide)
      · exact hU _ y hy
    · exact hU _ y hy
  · rw [show ib x = [x.op] ++ [0] from by simp [ib, hk]]
    refine ⟨by simp, by simp, ?_, by simp⟩
    intro y hy
    rcases List.mem_append.1 hy with hy | hy
    · rw [List.mem_singleton.1 hy]; exact hop (by decide)
    · rw [List.mem_singleton.1 hy]; decide
  · rw [show ib x = [x.op] ++ Leb.sB (sgT 127 x.K) from by simp [ib, hk]]
    have hg := sg_range 127 x.K hu
    have hu1 := sB_ten hg.1 hg.2
    refine ⟨by simp, by simp only [List.length_append, List.length_singleton]; omega, ?_, by simp⟩
    intro y hy
    rcases List.mem_append.1 hy with hy | hy
    · rw [List.mem_singleton.1 hy]; exact hop (by decide)
    · exact hS _ y hy
  · rw [show ib x = [x.op] ++ Leb.sB (sgT 126 x.K) from by simp [ib, hk]]
    have hg := sg_range 126 x.K hu
    have hu1 := sB_ten hg.1 hg.2
    refine ⟨by simp, by simp only [List.length_append, List.length_singleton]; omega, ?_, by simp⟩
    intro y hy
    rcases List.mem_append.1 hy with hy | hy
    · rw [List.mem_singleton.1 hy]; exact hop (by decide)
    · exact hS _ y hy
/-- Bytes, and an error: told. -/
def PutTold (L : List Int) (n : Int) (w : World) (en : Ending) (w' : World) : Prop := ∃ v, en = .returned (.tuple #[v, .int .i64 n]) ∧ Sl w' v L ∧ Below w.heap.size w w'
theorem pput_no (v : Value) (op A B K : Int) (P : Option Addr) (n c : Nat) (w : World)
    (hS : ∀ W, Below w.heap.size w W → Calls Tryd.prog 18 #[.agg #[.int .i64 op, .int .i64 A, .int .i64 B, .int .u64 K, .slice P n c]] W fun en w' => en = .returned (.bool false) ∧ Below W.heap.size W w') :
    Calls Tryd.prog 13 #[v, .agg #[.int .i64 op, .int .i64 A, .int .i64 B, .int .u64 K, .slice P n c]] w (PutTold [] 1 w) := by
  have HS := Lib.hid hS
  have HA1 := Lib.hid ((Below.refl w.heap.size w).alloc (Nat.le_refl _) (.cells #[.int .i64 op, .int .i64 A, .int .i64 B, .int .u64 K, .slice P n c] 26))
  have HI := Lib.hid (InAt.at_ w w.heap.size op A B K (.slice P n c) 26 rfl)
  clear hS
  obtain ⟨i0, ic0, ic1, ic2, ic3, ic4, if0, if1, if2, if3, if4⟩ := HI.out
  go_enter Tryd.func13, Tryd.ntmps13
  go_wp2_with fail
  refine (HS.out _ HA1.out).mono ?_
  rintro en w2 ⟨rfl, hb2⟩
  have HW := Lib.hid (HA1.out.trans (hb2.mono HA1.out.size))
  clear hb2
  go_wp2_with fail
  exact bodyPost_ret (v := .tuple #[.slice none 0 0, .int .i64 1]) (by simp [results, Tryd.results13, go_sem]) rfl ⟨_, rfl, Sl.nil _, HW.out⟩
theorem pput_yes (A0 : Option Addr) (c0 : Nat) (b L : List Int) (op A B K : Int) (P : Option Addr) (n c : Nat) (w : World) (hv : Sl w (.slice A0 b.length c0) b) (hb : b.length ≤ 10000) (hL0 : 0 < L.length) (hL : L.length ≤ 10000)
    (hS : ∀ W, Below w.heap.size w W → Calls Tryd.prog 18 #[.agg #[.int .i64 op, .int .i64 A, .int .i64 B, .int .u64 K, .slice P n c]] W fun en w' => en = .returned (.bool true) ∧ Below W.heap.size W w')
    (hD : ∀ W, Below w.heap.size w W → Calls Tryd.prog 27 #[.agg #[.int .i64 op, .int .i64 A, .int .i64 B, .int .u64 K, .slice P n c]] W (SlTold L W)) :
    Calls Tryd.prog 13 #[.slice A0 b.length c0, .agg #[.int .i64 op, .int .i64 A, .int .i64 B, .int .u64 K, .slice P n c]] w (PutTold (b ++ L) 0 w) := by
  have HS := Lib.hid hS
  have HD := Lib.hid hD
  have HV := Lib.hid hv
  have HL := Lib.hid hL
  have HL0 := Lib.hid hL0
  have HBl := Lib.hid hb
  have HA1 := Lib.hid ((Below.refl w.heap.size w).alloc (Nat.le_refl _) (.cells #[.int .i64 op, .int .i64 A, .int .i64 B, .int .u64 K, .slice P n c] 26))
  have HI := Lib.hid (InAt.at_ w w.heap.size op A B K (.slice P n c) 26 rfl)
  clear hS hD hv hL hb hL0
  obtain ⟨m, hm⟩ : ∃ m, b.length = m := ⟨_, rfl⟩
  rw [hm]
  have HM := Lib.hid hm
  clear hm
  obtain ⟨i0, ic0, ic1, ic2, ic3, ic4, if0, if1, if2, if3, if4⟩ := HI.out
  go_enter Tryd.func13, Tryd.ntmps13
  go_wp2_with fail
  refine (HS.out _ HA1.out).mono ?_
  rintro en w2 ⟨rfl, hb2⟩
  have HI := Lib.hid (HI.out.keep hb2)
  have HW := Lib.hid (HA1.out.trans (hb2.mono HA1.out.size))
  clear hb2 i0 ic0 ic1 ic2 ic3 ic4 if0 if1 if2 if3 if4
  obtain ⟨i0, ic0, ic1, ic2, ic3, ic4, if0, if1, if2, if3, if4⟩ := HI.out
  go_wp2_with fail
  refine (HD.out _ HW.out).mono ?_
  rintro en w3 ⟨v3, rfl, hs3, hb3⟩
  have HW3 := Lib.hid (HW.out.trans (hb3.mono HW.out.size))
  obtain ⟨A3, c3, rfl, _⟩ := id hs3
  have HS3 := Lib.hid hs3
  obtain ⟨m3, hm3⟩ : ∃ m3, L.length = m3 := ⟨_, rfl⟩
  rw [hm3]
  have HM3 := Lib.hid hm3
  clear hb3 hs3 hm3 i0 ic0 ic1 ic2 ic3 ic4 if0 if1 if2 if3 if4
  go_wp2_with fail
  have HW4 := Lib.hid (HW3.out.alloc HW3.out.size (.cells #[.slice A0 m c0, .slice A3 m3 c3] 22))
  have HC : Hid (Calls Tryd.prog 26 #[.slice (some ⟨w3.heap.size, 0, none⟩) 2 2] (w3.alloc (.cells #[.slice A0 m c0, .slice A3 m3 c3] 22)) (Leb.Laid (w3.alloc (.cells #[.slice A0 m c0, .slice A3 m3 c3] 22)) (b ++ L))) := by
    have hba := (Below.refl w3.heap.size w3).alloc (Nat.le_refl _) (.cells #[.slice A0 m c0, .slice A3 m3 c3] 22)
    exact concat_any w3.heap.size A0 A3 c0 c3 b L _ (by rw [HM.out]; simp) (by rw [HM3.out]; simp) (by simp) ((HV.out.keep HW3.out).keep hba).leb ((HS3.out).keep hba).leb (by have := HBl.out; omega) (by have := HL.out; omega) (by have := HL0.out; omega)
  refine HC.out.mono ?_
  rintro en w5 ⟨v5, rfl, ho5, hb5⟩
  have HO5 := Lib.hid (own_slI ho5)
  have HW5 := Lib.hid (HW4.out.trans (hb5.mono HW4.out.size))
  obtain ⟨⟨g5, d5, rfl⟩, _⟩ := id ho5
  clear ho5 hb5
  go_wp2_with fail
  exact bodyPost_ret (v := .tuple #[.slice (some ⟨g5, 0, none⟩) (b ++ L).length d5, .int .i64 0]) (by simp [results, Tryd.results13, go_sem]) rfl ⟨_, rfl, HO5.out, HW5.out⟩
/-- What Put gives, by the document. -/
def PutIs (b : List Int) (x : Ins) (w : World) (en : Ending) (w' : World) : Prop := PutTold (bif saneI x then b ++ ib x else []) (bif saneI x then 0 else 1) w en w'
theorem pput_any {x : Ins} {o v : Value} {b : List Int} {w : World} (hv : Sl w v b) (hb : b.length ≤ 10000) (hx : SlI w o x.L) (hu : u64R x.K) (hT : KTab w) : Calls Tryd.prog 13 #[v, iv x o] w (PutIs b x w) := by
  have hS : ∀ W, Below w.heap.size w W → Calls Tryd.prog 18 #[iv x o] W fun en w' => en = .returned (.bool (saneI x)) ∧ Below W.heap.size W w' := fun W hW => psane_any (hx.keep hW) hu (hT.keep hW)
  obtain ⟨P, c, ho, _⟩ := id hx
  obtain ⟨A0, c0, hv0, _⟩ := id hv
  subst ho hv0
  unfold PutIs
  cases hs : saneI x with
  | false =>
    rw [hs] at hS
    exact pput_no _ _ _ _ _ P _ c w hS
  | true =>
    rw [hs] at hS
    obtain ⟨h1, h2, _⟩ := ib_facts hu hs
    exact pput_yes A0 c0 b (ib x) _ _ _ _ P _ c w hv hb h1 (by omega) hS fun W hW => plaid_any (hx.keep hW) hu (hT.keep hW) hs
end Go.Proofs.YtmjimijolfjhmaaDoor.Ins
