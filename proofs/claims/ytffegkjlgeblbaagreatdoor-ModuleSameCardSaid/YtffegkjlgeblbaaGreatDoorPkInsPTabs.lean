/- InsPPut, InsMath, InsTold, InsPTabs. -/
import Derived.Test.YtffegkjlgeblbaaGreatDoorPkInsPLaidB
import Derived.Test.YtffegkjlgeblbaaGreatDoorPkInsPSame
import Derived.Test.YtffegkjlgeblbaaGreatDoorRows
import Derived.ProofKit
import Derived.Lay
import Derived.LaidOnce
import Derived.OpenShut
import Derived.ShutString
import Derived.ChangeOld
section
/- What the program lays of an instruction that may be; Put. -/
namespace Go.Proofs.YtffegkjlgeblbaaGreatDoor.Ins
open Go.RowKit Ints Typ
set_option maxRecDepth 100000
set_option maxHeartbeats 1000000
set_option linter.unusedVariables false

def ib (x : Ins) : List Int :=
  if kd x.op = 2 then [x.op] ++ [if x.A = 0 then 64 else x.A]
  else if kd x.op = 3 then [x.op] ++ Leb.uB x.A.toNat
  else if kd x.op = 4 then [x.op] ++ Leb.uB x.L.length ++ uLs x.L ++ Leb.uB x.A.toNat
  else if kd x.op = 5 then [x.op] ++ Leb.uB x.A.toNat ++ [0]
  else if kd x.op = 6 then [x.op] ++ Leb.uB x.A.toNat ++ Leb.uB x.B.toNat
  else if kd x.op = 7 then [x.op] ++ [0]
  else if kd x.op = 8 then [x.op] ++ Leb.sB (sgT 127 x.K)
  else if kd x.op = 9 then [x.op] ++ Leb.sB (sgT 126 x.K)
  else [x.op]
theorem okN_of {a : Int} (h : okN a = true) : 0 ≤ a ∧ a ≤ 4294967295 := by unfold okN at h; simpa using h
theorem okN_nat {a : Int} (h : okN a = true) : ((a.toNat : Nat) : Int) = a := by have := okN_of h; omega
theorem okN_wrap {a : Int} (h : okN a = true) : IntKind.u64.wrap a = a := by have := okN_of h; rw [IntKind.wrap_u64]; omega
theorem uB_ten {a : Nat} (h : a ≤ 4294967295) : (Leb.uB a).length ≤ 10 := by rw [Leb.uB_len]; exact Leb.lenU_ten (by omega)
theorem sg_range (t v : Int) (hv : u64R v) : -9223372036854775808 ≤ sgT t v ∧ sgT t v ≤ 9223372036854775807 := by
  unfold u64R at hv
  unfold sgT sg32 sg64
  repeat' split
  all_goals omega
theorem U_sl {W : World} {v : Value} {l : List Int} {a : Int} (ha : okN a = true) (hl : l.length ≤ 1000000) (h : Sl W v l) : Calls Tryz.prog 69 #[v, .int .u64 a] W (Leb.Laid W (l ++ Leb.uB a.toNat)) := by
  obtain ⟨A, c, hv, _⟩ := id h
  subst hv
  have := Leb.U_any A c a.toNat l W h.leb hl (by have := okN_of ha; omega)
  rw [okN_nat ha] at this
  exact this
theorem S_sl {W : World} {v : Value} {l : List Int} {a : Int} (h1 : -9223372036854775808 ≤ a) (h2 : a ≤ 9223372036854775807) (hl : l.length ≤ 1000000) (h : Sl W v l) : Calls Tryz.prog 279 #[v, .int .i64 a] W (Leb.Laid W (l ++ Leb.sB a)) := by
  obtain ⟨A, c, hv, _⟩ := id h
  subst hv
  exact Leb.S_any A c a l W h.leb hl h1 h2
theorem plaid_any {x : Ins} {o : Value} {w : World} (hx : SlI w o x.L) (hu : u64R x.K) (hT : KTab w) (hs : saneI x = true) : Calls Tryz.prog 256 #[iv x o] w (SlTold (ib x) w) := by
  obtain ⟨P, c, ho, _⟩ := id hx
  subst ho
  have hr := kd_range x.op
  have hK : ∀ k : Int, kd x.op = k → ∀ W, Below w.heap.size w W → Calls Tryz.prog 266 #[.int .i64 x.op] W fun en w' => en = .returned (.int .i64 k) ∧ Below W.heap.size W w' := fun k hk W hW => by
    have := kind_told x.op W (hT.keep hW)
    unfold KdTold at this
    rwa [hk] at this
  unfold iv
  have hk : kd x.op = 0 ∨ kd x.op = 1 ∨ kd x.op = 2 ∨ kd x.op = 3 ∨ kd x.op = 4 ∨ kd x.op = 5 ∨ kd x.op = 6 ∨ kd x.op = 7 ∨ kd x.op = 8 ∨ kd x.op = 9 := by omega
  have hsg : ∀ t W, Calls Tryz.prog 280 #[.int .u8 t, .int .u64 x.K] W fun en w' => en = .returned (.int .i64 (sgT t x.K)) ∧ W = w' := fun t W => sgn_any t x.K W hu
  have wo : kd x.op ≠ 0 → IntKind.u8.wrap x.op = x.op := fun h => by have := kd_code h; rw [IntKind.wrap_u8]; omega
  rw [saneI_eq] at hs
  rcases hk with hk | hk | hk | hk | hk | hk | hk | hk | hk | hk <;> rw [hk] at hs wo
  · rw [saneK_0] at hs
    exact absurd hs (by simp)
  · rw [show ib x = [x.op] from by simp [ib, hk]]
    exact plaid_1 _ _ _ _ P _ c w (wo (by decide)) (hK 1 hk)
  · rw [show ib x = [x.op] ++ [if x.A = 0 then 64 else x.A] from by simp [ib, hk]]
    rw [saneK_2, Bool.and_eq_true] at hs
    have hA : x.A = 0 ∨ x.A = 127 ∨ x.A = 126 := by simpa [or_assoc] using hs.1
    refine plaid_2 _ _ _ _ P _ c w _ (wo (by decide)) (hK 2 hk) fun W => rbyte_core x.A _ W _ rfl ?_
    rcases hA with h | h | h <;> rw [h] <;> decide
  · rw [show ib x = [x.op] ++ Leb.uB x.A.toNat from by simp [ib, hk]]
    rw [saneK_3, Bool.and_eq_true] at hs
    exact plaid_3 _ _ _ _ P _ c w _ (wo (by decide)) (hK 3 hk) (okN_wrap hs.1) fun W v hv => U_sl hs.1 (by simp) hv
  · rw [show ib x = [x.op] ++ Leb.uB x.L.length ++ uLs x.L ++ Leb.uB x.A.toNat from by simp [ib, hk]]
    rw [saneK_4, Bool.and_eq_true, Bool.and_eq_true, Bool.and_eq_true] at hs
    obtain ⟨⟨⟨hall, hlen⟩, hA⟩, _⟩ := hs
    have hlen : x.L.length ≤ 64 := by have := of_decide_eq_true hlen; omega
    have hok : okN (x.L.length : Int) = true := by unfold okN; simp; omega
    have hu1 := uB_ten (a := x.L.length) (by omega)
    have hu2 := uLs_len x.L hall
    refine plaid_4 _ _ _ _ P _ c w x.L ([x.op] ++ Leb.uB x.L.length) _ rfl hx hall (wo (by decide)) (hK 4 hk) (okN_wrap hA) (okN_wrap hok) hlen ?_ ?_ ?_
    · intro W v hv
      have := U_sl hok (by simp) hv
      rw [Int.toNat_natCast] at this
      exact this
    · intro W v k hk' hv
      have hg : okN (x.L.getD k 0) = true := List.all_eq_true.1 hall _ (by rw [List.getD_eq_getElem?_getD, List.getElem?_eq_getElem hk']; simp)
      have ht := uLs_len (x.L.take k) (List.all_eq_true.2 fun y hy => List.all_eq_true.1 hall y (List.mem_of_mem_take hy))
      have hlt : (x.L.take k).length ≤ 64 := by rw [List.length_take]; omega
      have := U_sl hg (by simp only [List.length_append, List.length_singleton]; omega) hv
      rw [List.append_assoc, uLs_take hk'] at this
      exact this
    · intro W v hv
      exact U_sl hA (by simp only [List.length_append, List.length_singleton]; omega) hv
  · rw [show ib x = [x.op] ++ Leb.uB x.A.toNat ++ [0] from by simp [ib, hk]]
    rw [saneK_5, Bool.and_eq_true] at hs
    have hu1 := uB_ten (a := x.A.toNat) (by have := okN_of hs.1; omega)
    exact plaid_5 _ _ _ _ P _ c w _ (wo (by decide)) (hK 5 hk) (okN_wrap hs.1) (by simp only [List.length_append, List.length_singleton]; omega) fun W v hv => U_sl hs.1 (by simp) hv
  · rw [show ib x = [x.op] ++ Leb.uB x.A.toNat ++ Leb.uB x.B.toNat from by simp [ib, hk]]
    rw [saneK_6, Bool.and_eq_true, Bool.and_eq_true] at hs
    have hu1 := uB_ten (a := x.A.toNat) (by have := okN_of hs.1.1; omega)
    exact plaid_6 _ _ _ _ P _ c w _ _ (wo (by decide)) (hK 6 hk) (okN_wrap hs.1.1) (okN_wrap hs.1.2) (fun W v hv => U_sl hs.1.1 (by simp) hv) (fun W v hv => U_sl hs.1.2 (by simp only [List.length_append, List.length_singleton]; omega) hv)
  · rw [show ib x = [x.op] ++ [0] from by simp [ib, hk]]
    exact plaid_7 _ _ _ _ P _ c w (wo (by decide)) (hK 7 hk)
  · rw [show ib x = [x.op] ++ Leb.sB (sgT 127 x.K) from by simp [ib, hk]]
    have hg := sg_range 127 x.K hu
    exact plaid_8 _ _ _ _ P _ c w _ _ (wo (by decide)) (hK 8 hk) (hsg 127) fun W v hv => S_sl hg.1 hg.2 (by simp) hv
  · rw [show ib x = [x.op] ++ Leb.sB (sgT 126 x.K) from by simp [ib, hk]]
    have hg := sg_range 126 x.K hu
    exact plaid_9 _ _ _ _ P _ c w _ _ (wo (by decide)) (hK 9 hk) (hsg 126) fun W v hv => S_sl hg.1 hg.2 (by simp) hv
theorem sB_ten {a : Int} (h1 : -9223372036854775808 ≤ a) (h2 : a ≤ 9223372036854775807) : (Leb.sB a).length ≤ 10 := by rw [Leb.sB_len]; exact Leb.lenS_ten h1 h2
theorem ib_facts {x : Ins} (hu : u64R x.K) (hs : saneI x = true) : 0 < (ib x).length ∧ (ib x).length ≤ 700 ∧ (∀ y ∈ ib x, 0 ≤ y ∧ y < 256) ∧ ib x = [x.op] ++ (ib x).drop 1 := by
  have hr := kd_range x.op
  have hk : kd x.op = 0 ∨ kd x.op = 1 ∨ kd x.op = 2 ∨ kd x.op = 3 ∨ kd x.op = 4 ∨ kd x.op = 5 ∨ kd x.op = 6 ∨ kd x.op = 7 ∨ kd x.op = 8 ∨ kd x.op = 9 := by omega
  have hU : ∀ n : Nat, ∀ y ∈ Leb.uB n, 0 ≤ y ∧ y < 256 := fun n y hy => by have := Leb.uB_byte n y hy; omega
  have hS : ∀ n : Int, ∀ y ∈ Leb.sB n, 0 ≤ y ∧ y < 256 := fun n y hy => by have := Leb.sB_byte n y hy; omega
  have hop : kd x.op ≠ 0 → 0 ≤ x.op ∧ x.op < 256 := fun h => by have := kd_code h; omega
  rw [saneI_eq] at hs
  rcases hk with hk | hk | hk | hk | hk | hk | hk | hk | hk | hk <;> rw [hk] at hs hop
  · rw [saneK_0] at hs
    exact absurd hs (by simp)
  · rw [show ib x = [x.op] from by simp [ib, hk]]
    exact ⟨by simp, by simp, by simpa using hop, by simp⟩
  · rw [show ib x = [x.op] ++ [if x.A = 0 then 64 else x.A] from by simp [ib, hk]]
    rw [saneK_2, Bool.and_eq_true] at hs
    have hA : x.A = 0 ∨ x.A = 127 ∨ x.A = 126 := by simpa [or_assoc] using hs.1
    refine ⟨by simp, by simp, ?_, by simp⟩
    intro y hy
    rcases List.mem_append.1 hy with hy | hy
    · rw [List.mem_singleton.1 hy]; exact hop (by decide)
    · rw [List.mem_singleton.1 hy]; rcases hA with h | h | h <;> rw [h] <;> decide
  · rw [show ib x = [x.op] ++ Leb.uB x.A.toNat from by simp [ib, hk]]
    rw [saneK_3, Bool.and_eq_true] at hs
    have hu1 := uB_ten (a := x.A.toNat) (by have := okN_of hs.1; omega)
    refine ⟨by simp, by simp only [List.length_append, List.length_singleton]; omega, ?_, by simp⟩
    intro y hy
    rcases List.mem_append.1 hy with hy | hy
    · rw [List.mem_singleton.1 hy]; exact hop (by decide)
    · exact hU _ y hy
  · rw [show ib x = [x.op] ++ Leb.uB x.L.length ++ uLs x.L ++ Leb.uB x.A.toNat from by simp [ib, hk]]
    rw [saneK_4, Bool.and_eq_true, Bool.and_eq_true, Bool.and_eq_true] at hs
    obtain ⟨⟨⟨hall, hlen⟩, hA⟩, _⟩ := hs
    have hlen : x.L.length ≤ 64 := by have := of_decide_eq_true hlen; omega
    have hu1 := uB_ten (a := x.L.length) (by omega)
    have hu2 := uLs_len x.L hall
    have hu3 := uB_ten (a := x.A.toNat) (by have := okN_of hA; omega)
    refine ⟨by simp, by simp only [List.length_append, List.length_singleton]; omega, ?_, by simp⟩
    intro y hy
    rcases List.mem_append.1 hy with hy | hy
    · rcases List.mem_append.1 hy with hy | hy
      · rcases List.mem_append.1 hy with hy | hy
        · rw [List.mem_singleton.1 hy]; exact hop (by decide)
        · exact hU _ y hy
      · obtain ⟨z, _, hz⟩ := List.mem_flatMap.1 hy
        exact hU _ y hz
    · exact hU _ y hy
  · rw [show ib x = [x.op] ++ Leb.uB x.A.toNat ++ [0] from by simp [ib, hk]]
    rw [saneK_5, Bool.and_eq_true] at hs
    have hu1 := uB_ten (a := x.A.toNat) (by have := okN_of hs.1; omega)
    refine ⟨by simp, by simp only [List.length_append, List.length_singleton]; omega, ?_, by simp⟩
    intro y hy
    rcases List.mem_append.1 hy with hy | hy
    · rcases List.mem_append.1 hy with hy | hy
      · rw [List.mem_singleton.1 hy]; exact hop (by decide)
      · exact hU _ y hy
    · rw [List.mem_singleton.1 hy]; decide
  · rw [show ib x = [x.op] ++ Leb.uB x.A.toNat ++ Leb.uB x.B.toNat from by simp [ib, hk]]
    rw [saneK_6, Bool.and_eq_true, Bool.and_eq_true] at hs
    have hu1 := uB_ten (a := x.A.toNat) (by have := okN_of hs.1.1; omega)
    have hu2 := uB_ten (a := x.B.toNat) (by have := okN_of hs.1.2; omega)
    refine ⟨by simp, by simp only [List.length_append, List.length_singleton]; omega, ?_, by simp⟩
    intro y hy
    rcases List.mem_append.1 hy with hy | hy
    · rcases List.mem_append.1 hy with hy | hy
      · rw [List.mem_singleton.1 hy]; exact hop (by decide)
      · exact hU _ y hy
    · exact hU _ y hy
  · rw [show ib x = [x.op] ++ [0] from by simp [ib, hk]]
    refine ⟨by simp, by simp, ?_, by simp⟩
    intro y hy
    rcases List.mem_append.1 hy with hy | hy
    · rw [List.mem_singleton.1 hy]; exact hop (by decide)
    · rw [List.mem_singleton.1 hy]; decide
  · rw [show ib x = [x.op] ++ Leb.sB (sgT 127 x.K) from by simp [ib, hk]]
    have hg := sg_range 127 x.K hu
    have hu1 := sB_ten hg.1 hg.2
    refine ⟨by simp, by simp only [List.length_append, List.length_singleton]; omega, ?_, by simp⟩
    intro y hy
    rcases List.mem_append.1 hy with hy | hy
    · rw [List.mem_singleton.1 hy]; exact hop (by decide)
    · exact hS _ y hy
  · rw [show ib x = [x.op] ++ Leb.sB (sgT 126 x.K) from by simp [ib, hk]]
    have hg := sg_range 126 x.K hu
    have hu1 := sB_ten hg.1 hg.2
    refine ⟨by simp, by simp only [List.length_append, List.length_singleton]; omega, ?_, by simp⟩
    intro y hy
    rcases List.mem_append.1 hy with hy | hy
    · rw [List.mem_singleton.1 hy]; exact hop (by decide)
    · exact hS _ y hy
def PutTold (L : List Int) (n : Int) (w : World) (en : Ending) (w' : World) : Prop := ∃ v, en = .returned (.tuple #[v, .int .i64 n]) ∧ Sl w' v L ∧ Below w.heap.size w w'
theorem pput_no (v : Value) (op A B K : Int) (P : Option Addr) (n c : Nat) (w : World)
    (hS : ∀ W, Below w.heap.size w W → Calls Tryz.prog 255 #[.agg #[.int .i64 op, .int .i64 A, .int .i64 B, .int .u64 K, .slice P n c]] W fun en w' => en = .returned (.bool false) ∧ Below W.heap.size W w') :
    Calls Tryz.prog 232 #[v, .agg #[.int .i64 op, .int .i64 A, .int .i64 B, .int .u64 K, .slice P n c]] w (PutTold [] 1 w) := by
  have HS := Lib.hid hS
  have HA1 := Lib.hid ((Below.refl w.heap.size w).alloc (Nat.le_refl _) (.cells #[.int .i64 op, .int .i64 A, .int .i64 B, .int .u64 K, .slice P n c] 67))
  have HI := Lib.hid (InAt.at_ w w.heap.size op A B K (.slice P n c) 67 rfl)
  clear hS
  obtain ⟨i0, ic0, ic1, ic2, ic3, ic4, if0, if1, if2, if3, if4⟩ := HI.out
  go_enter Tryz.func232, Tryz.ntmps232
  go_wp2_with fail
  refine (HS.out _ HA1.out).mono ?_
  rintro en w2 ⟨rfl, hb2⟩
  have HW := Lib.hid (HA1.out.trans (hb2.mono HA1.out.size))
  clear hb2
  go_wp2_with fail
  exact bodyPost_ret (v := .tuple #[.slice none 0 0, .int .i64 1]) (by simp [results, Tryz.results232, go_sem]) rfl ⟨_, rfl, Sl.nil _, HW.out⟩
theorem pput_yes (A0 : Option Addr) (c0 : Nat) (b L : List Int) (op A B K : Int) (P : Option Addr) (n c : Nat) (w : World) (hv : Sl w (.slice A0 b.length c0) b) (hb : b.length ≤ 10000) (hL0 : 0 < L.length) (hL : L.length ≤ 10000)
    (hS : ∀ W, Below w.heap.size w W → Calls Tryz.prog 255 #[.agg #[.int .i64 op, .int .i64 A, .int .i64 B, .int .u64 K, .slice P n c]] W fun en w' => en = .returned (.bool true) ∧ Below W.heap.size W w')
    (hD : ∀ W, Below w.heap.size w W → Calls Tryz.prog 256 #[.agg #[.int .i64 op, .int .i64 A, .int .i64 B, .int .u64 K, .slice P n c]] W (SlTold L W)) :
    Calls Tryz.prog 232 #[.slice A0 b.length c0, .agg #[.int .i64 op, .int .i64 A, .int .i64 B, .int .u64 K, .slice P n c]] w (PutTold (b ++ L) 0 w) := by
  have HS := Lib.hid hS
  have HD := Lib.hid hD
  have HV := Lib.hid hv
  have HL := Lib.hid hL
  have HL0 := Lib.hid hL0
  have HBl := Lib.hid hb
  have HA1 := Lib.hid ((Below.refl w.heap.size w).alloc (Nat.le_refl _) (.cells #[.int .i64 op, .int .i64 A, .int .i64 B, .int .u64 K, .slice P n c] 67))
  have HI := Lib.hid (InAt.at_ w w.heap.size op A B K (.slice P n c) 67 rfl)
  clear hS hD hv hL hb hL0
  obtain ⟨m, hm⟩ : ∃ m, b.length = m := ⟨_, rfl⟩
  rw [hm]
  have HM := Lib.hid hm
  clear hm
  obtain ⟨i0, ic0, ic1, ic2, ic3, ic4, if0, if1, if2, if3, if4⟩ := HI.out
  go_enter Tryz.func232, Tryz.ntmps232
  go_wp2_with fail
  refine (HS.out _ HA1.out).mono ?_
  rintro en w2 ⟨rfl, hb2⟩
  have HI := Lib.hid (HI.out.keep hb2)
  have HW := Lib.hid (HA1.out.trans (hb2.mono HA1.out.size))
  clear hb2 i0 ic0 ic1 ic2 ic3 ic4 if0 if1 if2 if3 if4
  obtain ⟨i0, ic0, ic1, ic2, ic3, ic4, if0, if1, if2, if3, if4⟩ := HI.out
  go_wp2_with fail
  refine (HD.out _ HW.out).mono ?_
  rintro en w3 ⟨v3, rfl, hs3, hb3⟩
  have HW3 := Lib.hid (HW.out.trans (hb3.mono HW.out.size))
  obtain ⟨A3, c3, rfl, _⟩ := id hs3
  have HS3 := Lib.hid hs3
  obtain ⟨m3, hm3⟩ : ∃ m3, L.length = m3 := ⟨_, rfl⟩
  rw [hm3]
  have HM3 := Lib.hid hm3
  clear hb3 hs3 hm3 i0 ic0 ic1 ic2 ic3 ic4 if0 if1 if2 if3 if4
  go_wp2_with fail
  have HW4 := Lib.hid (HW3.out.alloc HW3.out.size (.cells #[.slice A0 m c0, .slice A3 m3 c3] 22))
  have HC : Hid (Calls Tryz.prog 226 #[.slice (some ⟨w3.heap.size, 0, none⟩) 2 2] (w3.alloc (.cells #[.slice A0 m c0, .slice A3 m3 c3] 22)) (Leb.Laid (w3.alloc (.cells #[.slice A0 m c0, .slice A3 m3 c3] 22)) (b ++ L))) := by
    have hba := (Below.refl w3.heap.size w3).alloc (Nat.le_refl _) (.cells #[.slice A0 m c0, .slice A3 m3 c3] 22)
    exact concat_any w3.heap.size A0 A3 c0 c3 b L _ (by rw [HM.out]; simp) (by rw [HM3.out]; simp) (by simp) ((HV.out.keep HW3.out).keep hba).leb ((HS3.out).keep hba).leb (by have := HBl.out; omega) (by have := HL.out; omega) (by have := HL0.out; omega)
  refine HC.out.mono ?_
  rintro en w5 ⟨v5, rfl, ho5, hb5⟩
  have HO5 := Lib.hid (own_slI ho5)
  have HW5 := Lib.hid (HW4.out.trans (hb5.mono HW4.out.size))
  obtain ⟨⟨g5, d5, rfl⟩, _⟩ := id ho5
  clear ho5 hb5
  go_wp2_with fail
  exact bodyPost_ret (v := .tuple #[.slice (some ⟨g5, 0, none⟩) (b ++ L).length d5, .int .i64 0]) (by simp [results, Tryz.results232, go_sem]) rfl ⟨_, rfl, HO5.out, HW5.out⟩
def PutIs (b : List Int) (x : Ins) (w : World) (en : Ending) (w' : World) : Prop := PutTold (bif saneI x then b ++ ib x else []) (bif saneI x then 0 else 1) w en w'
theorem pput_any {x : Ins} {o v : Value} {b : List Int} {w : World} (hv : Sl w v b) (hb : b.length ≤ 10000) (hx : SlI w o x.L) (hu : u64R x.K) (hT : KTab w) : Calls Tryz.prog 232 #[v, iv x o] w (PutIs b x w) := by
  have hS : ∀ W, Below w.heap.size w W → Calls Tryz.prog 255 #[iv x o] W fun en w' => en = .returned (.bool (saneI x)) ∧ Below W.heap.size W w' := fun W hW => psane_any (hx.keep hW) hu (hT.keep hW)
  obtain ⟨P, c, ho, _⟩ := id hx
  obtain ⟨A0, c0, hv0, _⟩ := id hv
  subst ho hv0
  unfold PutIs
  cases hs : saneI x with
  | false =>
    rw [hs] at hS
    exact pput_no _ _ _ _ _ P _ c w hS
  | true =>
    rw [hs] at hS
    obtain ⟨h1, h2, _⟩ := ib_facts hu hs
    exact pput_yes A0 c0 b (ib x) _ _ _ _ P _ c w hv hb h1 (by omega) hS fun W hW => plaid_any (hx.keep hW) hu (hT.keep hW) hs
end Go.Proofs.YtffegkjlgeblbaaGreatDoor.Ins
end

section
/- An instruction's bytes read back; a byte less is too short. What is told may be. Plain lists. -/
namespace Go.Proofs.YtffegkjlgeblbaaGreatDoor.Ins
open Go.RowKit Ints Typ Leb
set_option maxRecDepth 100000
set_option maxHeartbeats 1000000
set_option linter.unusedVariables false

theorem rb_at {l t : List Int} {a : Nat} {c : Int} (h : l.drop a = c :: t) : rb l a 0 = (c, a + 1, 0) := by
  have hl : a < l.length := by
    by_cases hh : a < l.length
    · exact hh
    · rw [List.drop_eq_nil_of_le (by omega)] at h; cases h
  have e : l.getD a 0 = c := by
    have h0 : (l.drop a)[0]? = some c := by rw [h]; rfl
    rw [List.getElem?_drop, Nat.add_zero] at h0
    rw [List.getD_eq_getElem?_getD, h0]; rfl
  rw [rb_in hl, e]
theorem drop_one {l t : List Int} {a : Nat} {c : Int} (h : l.drop a = c :: t) : l.drop (a + 1) = t := by
  rw [← List.drop_drop, h]; rfl
theorem drop_app {l x t : List Int} {a : Nat} (h : l.drop a = x ++ t) : l.drop (a + x.length) = t := by
  rw [← List.drop_drop, h, List.drop_left]
theorem ru_at {l t : List Int} {a v : Nat} (hv : v < 4294967296) (h : l.drop a = uB v ++ t) : ru l a 0 = ((v : Int), a + (uB v).length, 0) := by
  unfold ru
  rw [if_neg (by simp), h, back32 hv t, uB_len]
  simp
theorem rs_at32 {l t : List Int} {a : Nat} {s : Int} (h1 : -2147483648 ≤ s) (h2 : s < 2147483648) (h : l.drop a = sB s ++ t) : rs 32 l a 0 = (s, a + (sB s).length, 0) := by
  have hb := rdS_back 32 (by omega) t s.natAbs s 0 0 (Nat.le_refl _) (by omega) rfl (by simp)
  rw [if_pos (by simp; omega)] at hb
  obtain ⟨V, e1, e2⟩ := hb
  rw [Nat.zero_add] at e1 e2
  have e3 := ext_back s V (by omega) (by omega) (by simpa using e2)
  unfold rs
  rw [if_neg (by simp), h, e1]
  simp only [e3, sB_len]
  simp
theorem rs_at64 {l t : List Int} {a : Nat} {s : Int} (h1 : -9223372036854775808 ≤ s) (h2 : s ≤ 9223372036854775807) (h : l.drop a = sB s ++ t) : rs 64 l a 0 = (s, a + (sB s).length, 0) := by
  have hb := rdS_back 64 (by omega) t s.natAbs s 0 0 (Nat.le_refl _) (by omega) rfl (by simp)
  rw [if_pos (by simp; omega)] at hb
  obtain ⟨V, e1, e2⟩ := hb
  rw [Nat.zero_add] at e1 e2
  have e3 := ext_back s V (by omega) (by omega) (by simpa using e2)
  unfold rs
  rw [if_neg (by simp), h, e1]
  simp only [e3, sB_len]
  simp
theorem lb_at {l t : List Int} : ∀ (L M : List Int) (a : Nat), L.all okN = true → l.drop a = uLs L ++ t → lb l L.length M a 0 = (M ++ L, a + (uLs L).length, 0)
  | [], M, a, _, _ => by simp [lb, uLs]
  | v :: L, M, a, h, hd => by
    rw [List.all_cons, Bool.and_eq_true] at h
    have hv := okN_of h.1
    have e : uLs (v :: L) = uB v.toNat ++ uLs L := rfl
    rw [e, List.append_assoc] at hd
    have hr := ru_at (by omega) hd
    have hd2 := drop_app hd
    have ih := lb_at L (M ++ [v]) _ h.2 hd2
    have e1 : lb l (v :: L).length M a 0 = lb l L.length (M ++ [(ru l a 0).1]) (ru l a 0).2.1 (ru l a 0).2.2 := if_pos rfl
    rw [e1, hr, show (((v.toNat : Nat) : Int)) = v from okN_nat h.1]
    show lb l L.length (M ++ [v]) (a + (uB v.toNat).length) 0 = _
    rw [ih, e, List.length_append]
    simp [Nat.add_assoc]
theorem vaT_sg32 {K : Int} (h0 : 0 ≤ K) (h1 : K < 4294967296) : vaT 127 (sgT 127 K) = K ∧ -2147483648 ≤ sgT 127 K ∧ sgT 127 K < 2147483648 := by
  unfold vaT sgT sg32
  rw [if_pos rfl, if_pos rfl]
  split <;> omega
theorem vaT_sg64 {K : Int} (h : u64R K) : IntKind.u64.wrap (sgT 126 K) = K := by
  unfold u64R at h
  rw [IntKind.wrap_u64]
  unfold sgT sg64
  rw [if_neg (by decide)]
  split <;> omega
theorem drop_ahead (b t : List Int) : (b ++ t).drop b.length = t := List.drop_left
theorem ri_head {l t : List Int} {a : Nat} {c : Int} (h : l.drop a = c :: t) : rb l a 0 = (c, a + 1, 0) ∧ l.drop (a + 1) = t := ⟨rb_at h, drop_one h⟩
theorem fitT_127 {K : Int} (h : fitT 127 K = true) : K < 4294967296 := by unfold fitT at h; simpa using h
theorem ri_back {x : Ins} (hu : u64R x.K) (hs : saneI x = true) {l t : List Int} {a : Nat} (h : l.drop a = ib x ++ t) : ri l a 0 = (x, a + (ib x).length, 0) := by
  have hr := kd_range x.op
  have hk : kd x.op = 0 ∨ kd x.op = 1 ∨ kd x.op = 2 ∨ kd x.op = 3 ∨ kd x.op = 4 ∨ kd x.op = 5 ∨ kd x.op = 6 ∨ kd x.op = 7 ∨ kd x.op = 8 ∨ kd x.op = 9 := by omega
  obtain ⟨op, A, B, K, L⟩ := x
  rw [saneI_eq] at hs
  simp only at hk hs hu
  rcases hk with hk | hk | hk | hk | hk | hk | hk | hk | hk | hk <;> rw [hk] at hs
  · rw [saneK_0] at hs; exact absurd hs (by simp)
  · rw [saneK_1] at hs
    obtain ⟨rfl, rfl, rfl, rfl⟩ := of_decide_eq_true hs
    rw [show ib ⟨op, 0, 0, 0, []⟩ = [op] from by simp [ib, hk]] at h ⊢
    obtain ⟨e1, h1⟩ := ri_head (t := t) (by simpa using h)
    unfold ri
    simp only [e1, hk]
    simp
  · rw [saneK_2, Bool.and_eq_true] at hs
    obtain ⟨_, rfl, rfl, rfl⟩ := of_decide_eq_true hs.2
    have hA : A = 0 ∨ A = 127 ∨ A = 126 := by simpa [or_assoc] using hs.1
    rw [show ib ⟨op, A, 0, 0, []⟩ = [op] ++ [if A = 0 then 64 else A] from by simp [ib, hk]] at h ⊢
    obtain ⟨e1, h1⟩ := ri_head (t := [if A = 0 then 64 else A] ++ t) (by simpa using h)
    obtain ⟨e2, _⟩ := ri_head (t := t) (c := if A = 0 then 64 else A) (by simpa using h1)
    unfold ri
    simp only [e1, e2, hk]
    rcases hA with rfl | rfl | rfl <;> simp [rf]
  · rw [saneK_3, Bool.and_eq_true] at hs
    obtain ⟨_, rfl, rfl, rfl⟩ := of_decide_eq_true hs.2
    have hA := okN_of hs.1
    rw [show ib ⟨op, A, 0, 0, []⟩ = [op] ++ uB A.toNat from by simp [ib, hk]] at h ⊢
    obtain ⟨e1, h1⟩ := ri_head (t := uB A.toNat ++ t) (by simpa using h)
    have e2 := ru_at (by omega) h1
    unfold ri
    simp only [e1, e2, hk]
    simp [okN_nat hs.1, Nat.add_comm, Nat.add_assoc]
  · rw [saneK_4, Bool.and_eq_true, Bool.and_eq_true, Bool.and_eq_true] at hs
    obtain ⟨⟨⟨hall, hlen⟩, hA⟩, hq⟩ := hs
    obtain ⟨_, rfl, rfl, _⟩ := of_decide_eq_true hq
    have hlen : L.length ≤ 64 := by have := of_decide_eq_true hlen; omega
    have hA' := okN_of hA
    rw [show ib ⟨op, A, 0, 0, L⟩ = [op] ++ uB L.length ++ uLs L ++ uB A.toNat from by simp [ib, hk]] at h ⊢
    obtain ⟨e1, h1⟩ := ri_head (t := uB L.length ++ (uLs L ++ (uB A.toNat ++ t))) (by simpa using h)
    have e2 := ru_at (by omega) h1
    have h2 := drop_app h1
    have e3 := lb_at L [] _ hall h2
    have h3 := drop_app h2
    have e4 := ru_at (by omega) h3
    unfold ri
    simp only [e1, e2, hk]
    rw [Int.toNat_natCast, show rf (decide ((64 : Int) < (L.length : Int))) 0 4 = 0 from by rw [decide_eq_false (by omega)]; rfl, e3]
    simp only [e4]
    simp [okN_nat hA, Nat.add_comm, Nat.add_left_comm, Nat.add_assoc]
  · rw [saneK_5, Bool.and_eq_true] at hs
    obtain ⟨_, rfl, rfl, rfl⟩ := of_decide_eq_true hs.2
    have hA := okN_of hs.1
    rw [show ib ⟨op, A, 0, 0, []⟩ = [op] ++ uB A.toNat ++ [0] from by simp [ib, hk]] at h ⊢
    obtain ⟨e1, h1⟩ := ri_head (t := uB A.toNat ++ (0 :: t)) (by simpa using h)
    have e2 := ru_at (by omega) h1
    have h2 := drop_app h1
    obtain ⟨e3, _⟩ := ri_head h2
    unfold ri
    simp only [e1, e2, e3, hk]
    simp [okN_nat hs.1, rf, Nat.add_comm, Nat.add_left_comm, Nat.add_assoc]
  · rw [saneK_6, Bool.and_eq_true, Bool.and_eq_true] at hs
    obtain ⟨_, _, rfl, rfl⟩ := of_decide_eq_true hs.2
    have hA := okN_of hs.1.1
    have hB := okN_of hs.1.2
    rw [show ib ⟨op, A, B, 0, []⟩ = [op] ++ uB A.toNat ++ uB B.toNat from by simp [ib, hk]] at h ⊢
    obtain ⟨e1, h1⟩ := ri_head (t := uB A.toNat ++ (uB B.toNat ++ t)) (by simpa using h)
    have e2 := ru_at (by omega) h1
    have h2 := drop_app h1
    have e3 := ru_at (by omega) h2
    unfold ri
    simp only [e1, e2, e3, hk]
    simp [okN_nat hs.1.1, okN_nat hs.1.2, Nat.add_comm, Nat.add_assoc]
  · rw [saneK_7] at hs
    obtain ⟨rfl, rfl, rfl, rfl⟩ := of_decide_eq_true hs
    rw [show ib ⟨op, 0, 0, 0, []⟩ = [op] ++ [0] from by simp [ib, hk]] at h ⊢
    obtain ⟨e1, h1⟩ := ri_head (t := 0 :: t) (by simpa using h)
    obtain ⟨e2, _⟩ := ri_head h1
    unfold ri
    simp only [e1, e2, hk]
    simp [rf]
  · rw [saneK_8, Bool.and_eq_true] at hs
    obtain ⟨rfl, rfl, _, rfl⟩ := of_decide_eq_true hs.2
    have hK := fitT_127 hs.1
    obtain ⟨g1, g2, g3⟩ := vaT_sg32 (K := K) (by unfold u64R at hu; omega) hK
    rw [show ib ⟨op, 0, 0, K, []⟩ = [op] ++ sB (sgT 127 K) from by simp [ib, hk]] at h ⊢
    obtain ⟨e1, h1⟩ := ri_head (t := sB (sgT 127 K) ++ t) (by simpa using h)
    have e2 := rs_at32 g2 g3 h1
    unfold ri
    simp only [e1, e2, hk]
    simp [g1, Nat.add_comm, Nat.add_assoc]
  · rw [saneK_9, Bool.and_eq_true] at hs
    obtain ⟨rfl, rfl, _, rfl⟩ := of_decide_eq_true hs.2
    have hg := sg_range 126 K hu
    rw [show ib ⟨op, 0, 0, K, []⟩ = [op] ++ sB (sgT 126 K) from by simp [ib, hk]] at h ⊢
    obtain ⟨e1, h1⟩ := ri_head (t := sB (sgT 126 K) ++ t) (by simpa using h)
    have e2 := rs_at64 hg.1 hg.2 h1
    unfold ri
    simp only [e1, e2, hk]
    simp [vaT_sg64 hu, Nat.add_comm, Nat.add_assoc]
theorem rdo_back {x : Ins} (hu : u64R x.K) (hs : saneI x = true) (b t : List Int) : rdo (b ++ (ib x ++ t)) (b.length : Int) = (x, ((b.length + (ib x).length : Nat) : Int), 0) := by
  have h := ri_back hu hs (l := b ++ (ib x ++ t)) (t := t) (a := b.length) (drop_ahead b _)
  unfold rdo
  rw [if_neg (by simp; omega), Int.toNat_natCast, h]
  simp
end Go.Proofs.YtffegkjlgeblbaaGreatDoor.Ins
end

section
/- What is told may be, is laid in no more bytes than it stood in. Plain lists. And what came in, what is owned, as lists somewhere. -/
namespace Go.Proofs.YtffegkjlgeblbaaGreatDoor.Ins
open Go.RowKit Ints Typ Leb
set_option maxRecDepth 100000
set_option maxHeartbeats 1000000
set_option linter.unusedVariables false

theorem came_slI {w : World} {a : Option Addr} {len cap : Nat} {zs : List Int} (h : Leb.Came .i64 w a len cap zs) : SlI w (.slice a len cap) (zs.take len) := by
  obtain ⟨h1, h2, h3, h4, h5⟩ := came_parts h
  refine ⟨a, cap, by rw [h1], by omega, h3, fun h0 => ?_⟩
  obtain ⟨g, off, e, hg, hc⟩ := h4 h0
  exact ⟨g, off, e, hg, fun j hj => hc j (by omega)⟩
theorem u64R_of {x : Int} (h : (Lit.int .u64 x).wf = true) : u64R x := by simpa [Lit.wf, IntKind.min, IntKind.max, IntKind.signed, IntKind.bits, u64R] using h
theorem own_cellsI {w : World} {B g cap : Nat} {v : Value} {n : Nat} {xs : List Value} {t : TypeId} (h : w.ownsRow B t 1 v n xs) (hv : v = .slice (some ⟨g, 0, none⟩) n cap) : ∀ j u, xs[j]? = some u → w.cell? ⟨g, 0 + j, none⟩ = some u := by
  intro j u hu
  have e := World.ownsRow.cells h (g := g) (by subst hv; rfl) j u hu
  cases j with
  | zero => simpa [Addr.add] using e
  | succ j => simpa [Addr.add] using e
theorem OwnI.slI {w : World} {B : Nat} {v : Value} {l : List Int} (h : Ins.OwnI w B v l) : SlI w v l := by
  have h' := h
  obtain ⟨_, ⟨hv, hl⟩ | ⟨g, cap, cur, hv, hB, hc, hle, hm, hsz, ht⟩⟩ := h'
  · have : l = [] := List.length_eq_zero_iff.1 hl
    subst this
    exact ⟨none, 0, hv, Nat.le_refl _, by omega, fun h => absurd rfl h⟩
  · refine ⟨_, cap, hv, hle, by unfold maxLen at hm; omega, fun h0 => ⟨g, 0, rfl, ?_, fun j hj => own_cellsI h hv j _ ?_⟩⟩
    · exact (Array.getElem?_eq_some_iff.1 hc).1
    · unfold Ins.vi; rw [List.getElem?_map, List.getElem?_eq_getElem hj]; simp [hj]
end Go.Proofs.YtffegkjlgeblbaaGreatDoor.Ins
end

section
/- The listed tables, as the rows have them, stand in their variables. -/
namespace Go.Proofs.YtffegkjlgeblbaaGreatDoor.Ins
open Go.ChangeShapes Go.WideShapes Go.ChangeAt Go.RowKit
set_option maxRecDepth 100000
set_option linter.unusedVariables false

def laidK : List (String × DataW Unit) := [("avocet/instr.kinds", Rows.laid_avocet_instr_kinds)]
theorem kinds_data : (Rows.laid_avocet_instr_kinds : DataW Unit) = .agg ((List.range 174).map fun r : Nat => .lit (.int .u8 (kd (r : Int)))) := by kernel_rfl
theorem cell_lt {w : World} {a : Addr} {v : Value} (h : w.cell? a = some v) : a.block < w.heap.size := by
  unfold World.cell? at h
  by_cases hlt : a.block < w.heap.size
  · exact hlt
  · rw [Array.getElem?_eq_none (by omega)] at h
    simp at h
theorem ktab_core {W : World} {g t : Nat} {cs : Array Value} {fuel : Nat} {p : List MemPlace} (hg : Tryz.prog.globalNamed "avocet/instr.kinds" = some g) (ht : (Tryz.prog.globals[g]?).map (·.type) = some t) (hv : W.var? Tryz.prog "avocet/instr.kinds" = some cs)
    (hd : DataW.trod (fun _ => ()) Tryz.prog W 0 (fun _ => true) false fuel t cs.toList = some (Rows.laid_avocet_instr_kinds, p)) : KTab W := by
  obtain rfl := Option.some.inj ((show Tryz.prog.globalNamed "avocet/instr.kinds" = some 1 by kernel_rfl).symm.trans hg)
  obtain rfl := Option.some.inj ((show (Tryz.prog.globals[1]?).map (·.type) = some 295 by kernel_rfl).symm.trans ht)
  obtain ⟨xs, m, _, ex, _, hl, hel⟩ := DataW.trod_array Tryz.underlying295 hd
  have c5 : Tryz.prog.cellsOf 5 = 1 := by kernel_rfl
  have key : ∀ r : Nat, r < 174 → W.cell? ⟨1, r, none⟩ = some (.int .u8 (kd (r : Int))) := by
    intro r hr
    have hE := hel r hr
    rw [c5, Nat.mul_one, List.getElem?_eq_getElem (by omega)] at hE
    obtain ⟨z, e1, e2, _⟩ := DataW.trod_int Tryz.underlying5 hE
    rw [kinds_data] at ex
    have e3 : (xs.map (·.1)) = (List.range 174).map fun r : Nat => (.lit (.int .u8 (kd (r : Int))) : DataW Unit) := (DataW.agg.inj (Prod.mk.inj ex).1).symm
    have e4 : (xs.map (·.1))[r]? = ((List.range 174).map fun r : Nat => (DataW.lit (.int .u8 (kd (r : Int))) : DataW Unit))[r]? := by rw [e3]
    rw [List.getElem?_map, List.getElem?_map, List.getElem?_eq_getElem (by omega : r < xs.length), List.getElem?_range hr, e2] at e4
    have hz : z = kd (r : Int) := by simpa only [Option.map_some, Option.some.injEq, DataW.lit.injEq, Lit.int.injEq, true_and] using e4
    rw [World.var?_cell hg hv r, ← hz]
    have : cs.toList[r]? = some (.int .u8 z) := by
      have h0 : ((cs.toList.drop r).take 1)[0]? = some (.int .u8 z) := by rw [e1]; rfl
      simpa using h0
    simpa using this
  exact ⟨cell_lt (key 0 (by decide)), key⟩
theorem ktab_of_laidK {W : World} (h : laidMetH Tryz.prog laidK W) : KTab W := by
  rw [MakeChecks.laidMetH_plain _ _ _ (by kernel_rfl)] at h
  obtain ⟨ps, ⟨g, t, cs, fuel, p, q, hg, ht, hv, hd, _, _⟩, _, _⟩ := h
  exact ktab_core hg ht hv hd
end Go.Proofs.YtffegkjlgeblbaaGreatDoor.Ins
end
