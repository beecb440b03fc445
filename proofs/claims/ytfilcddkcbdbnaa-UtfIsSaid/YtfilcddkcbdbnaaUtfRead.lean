/- The program's Valid, Runes and FromRunes, walked. -/
import Derived.Test.YtfilcddkcbdbnaaUtfText
namespace Go.Proofs.Ytfilcddkcbdbnaa.Utf
open Go.RowKit
set_option maxRecDepth 100000
set_option maxHeartbeats 1000000

theorem none_txt (A : Option Addr) (c : Nat) (w : World) : (convert 22 9 (.slice A 0 c)).run Try.prog w = .ok (.string (strOfNums [])) w := by
  cases A with
  | none => rfl
  | some a => rfl
theorem sl_txt {w : World} {v : Value} {l : List Int} (h : Sl w v l) : (convert 22 9 v).run Try.prog w = .ok (.string (strOfNums l)) w := by
  obtain ⟨A, c, rfl, _, _, h4⟩ := h
  by_cases h0 : l = []
  · subst h0
    exact none_txt A c w
  · obtain ⟨g, off, rfl, hB⟩ := h4 h0
    exact run_txt w g off l.length c l rfl hB.2.2
theorem pvalid_any (v : Value) (l : List Int) (w : World) (hb : ∀ x ∈ l, 0 ≤ x ∧ x < 256) (hv : Sl w v l) : Calls Try.prog 18 #[v] w fun e w' => e = .returned (.bool (isT l)) ∧ Below w.heap.size w w' := by
  have ht := sl_txt hv
  have HI := Lib.hid (istext_any (strOfNums l) w)
  rw [bl_str hb] at HI
  clear hb hv
  go_enter Try.func18, Try.ntmps18
  go_wp2_with fail
  refine HI.out.mono ?_
  rintro e w1 ⟨rfl, hb⟩
  have HB := Lib.hid hb
  clear hb
  go_wp2_with fail
  go_ret
  exact ⟨rfl, HB.out⟩
/-- 'append(s, y)' on whole numbers of the call's own: every block but its own stays. -/
theorem wp_intK {ops : Array Oper} {rest : List Oper} {o : Oper} {a : Act} {Q : Exit → Act → World → Prop} (w : World) (hgd : o.guard = none) (s x : Operand)
    (ho : o.op = .call { callee := .builtin .append, args := #[s, x], argTypes := #[23, 23] }) (B : Nat) (v : Value) (done : List Int) (y : Int) (hs : a.eval s = v) (hown : OwnI w B v done)
    (hx : a.eval x = .slice (some ⟨w.heap.size, 0, none⟩) 1 1) (hlen : done.length ≤ 10000000) (hB : B ≤ w.heap.size)
    (h : ∀ v' w', OwnI w' B v' (done ++ [y]) → Below B w w' → (∀ k, k < w.heap.size → some k ≠ v.ownBlock → w'.heap[k]? = w.heap[k]?) → wpList Try.prog ops Q rest (a.put o.dst v') w') : wpList Try.prog ops Q (o :: rest) a (w.alloc (.cells #[.int .i64 y] 3)) := by
  obtain ⟨i0, hi, hz0, hz1, hz2⟩ := info_parts int_info
  refine wpList_append_own _ hgd s x 23 ho B 3 i0 (.int .i64 0) 1 8 Try.underlying23 hi hz0 hz1 hz2 rfl (by decide) v _ _ hs (World.ownsRow.alloc hown _) ⟨w.heap.size, 0, none⟩ 1 1 [.int .i64 y] hx rfl (one_newI w _) (by intro u hu; simp at hu; subst hu; rfl) (by simp only [maxLen]; omega) (by omega) (by simp; omega) ?_
  intro v' w' ho' hg hn
  refine h v' w' ?_ (((Below.refl _ _).alloc hB _).grown hg (by simp; omega) hown.block) (fun k hk hne => ?_)
  · have ho2 : w'.ownsRow B 3 1 v' (done ++ [y]).length (vi (done ++ [y])) := by simpa [vi] using ho'
    exact ho2
  · rw [hg.block k (by simp; omega) hne]
    exact (World.grownBy_alloc w _ none).block k hk (by simp)
theorem OwnI.iterAt {w : World} {B : Nat} {v : Value} {l : List Int} {k : Nat} {s : ByteArray} {pos : Nat} (h : OwnI w B v l) (hk : w.heap[k]? = some (.stringIter s pos)) (pos' : Nat) : OwnI (w.iterAt k s pos') B v l := by
  refine ⟨h.1, ?_⟩
  rcases h.2 with h0 | ⟨g, cap, cur, hv, hb, hg, rest⟩
  · exact .inl h0
  · refine .inr ⟨g, cap, cur, hv, hb, ?_, rest⟩
    rw [Lib.iterAt_other _ _ _ _ _ (fun e => by subst e; rw [hk] at hg; cases hg)]
    exact hg
theorem OwnI.ne_iter {w : World} {B : Nat} {v : Value} {l : List Int} {k : Nat} {s : ByteArray} {pos : Nat} (h : OwnI w B v l) (hk : w.heap[k]? = some (.stringIter s pos)) : some k ≠ v.ownBlock := by
  rcases h.2 with ⟨rfl, _⟩ | ⟨g, cap, cur, rfl, hb, hg, rest⟩
  · simp [Value.ownBlock]
  · intro e
    simp only [Value.ownBlock, Option.some.injEq] at e
    subst e
    rw [hk] at hg
    cases hg
/-- How far the program has told a text's numbers. -/
def Told (w : World) (K : Nat) (l : List Int) (k : Nat) (done : List Int) (o : Value) (wr : World) : Prop :=
  k ≤ l.length ∧ l.take k = done.flatMap enc ∧ (∀ v ∈ done, okR v) ∧ done.length ≤ k ∧ OwnI wr w.heap.size o done ∧ wr.heap[K]? = some (.stringIter (strOfNums l) k) ∧ Below w.heap.size w wr
theorem txt_next {b x : List Int} (h : Txt b x) {k : Nat} {done : List Int} (hd : ∀ v ∈ done, okR v) (ht : b.take k = done.flatMap enc) (hk : k < b.length) : ∃ v t, okR v ∧ b.drop k = enc v ++ t ∧ b.take (k + (enc v).length) = (done ++ [v]).flatMap enc ∧ k + (enc v).length ≤ b.length := by
  obtain ⟨y, hy, _⟩ := Txt.rest (x := done) (a := b.take k) (b := b.drop k) ⟨hd, ht⟩ (by rw [List.take_append_drop]; exact h)
  cases y with
  | nil =>
    have := hy.2
    simp at this
    omega
  | cons v y =>
    obtain ⟨hv, t, ht2, _⟩ := hy.tail
    have hl := congrArg List.length ht2
    rw [List.length_append, List.length_drop] at hl
    have := (enc_len v).1
    refine ⟨v, t, hv, ht2, ?_, by omega⟩
    rw [List.flatMap_append, ← ht, List.take_add, ht2, List.take_left]
    simp
theorem prunes_any (v : Value) (l : List Int) (w : World) (hb : ∀ x ∈ l, 0 ≤ x ∧ x < 256) (hv : Sl w v l) (hl : l.length ≤ 1000000) : Calls Try.prog 10 #[v] w (RunEnds l w) := by
  have ht := sl_txt hv
  have HI := Lib.hid (istext_any (strOfNums l) w)
  rw [bl_str hb] at HI
  have hsz : (strOfNums l).size = l.length := by rw [← bl_len, bl_str hb]
  have HSZ := Lib.hid hsz
  have HBL := Lib.hid (bl_str hb)
  clear hb hv hsz
  cases hT : isT l with
  | false =>
    rw [hT] at HI
    have HT := Lib.hid hT
    clear hT
    go_enter Try.func10, Try.ntmps10
    go_wp2_with fail
    refine HI.out.mono ?_
    rintro e w1 ⟨rfl, hb⟩
    have HB := Lib.hid hb
    clear hb
    go_wp2_with fail
    go_ret2
    exact ⟨.inr ⟨(fun x hx => by have := isT_true hx; rw [HT.out] at this; cases this), rfl⟩, HB.out⟩
  | true =>
    rw [hT] at HI
    have HT : Hid (∃ x, Txt l x) := by
      show ∃ x, Txt l x
      by_cases h : ∃ x, Txt l x
      · exact h
      · rw [isT_false (fun x hx => h ⟨x, hx⟩)] at hT
        cases hT
    clear hT
    go_enter Try.func10, Try.ntmps10
    go_wp2_with fail
    refine HI.out.mono ?_
    rintro e w1 ⟨rfl, hb⟩
    have HB := Lib.hid hb
    clear hb HI
    go_wp2_with fail
    have hK : w.heap.size ≤ w1.heap.size := HB.out.size
    go_loopw [5] (fun o wr => ∃ (k : Nat) (done : List Int), Told w w1.heap.size l k done o wr) (fun _ wr => l.length - wr.iterPos w1.heap.size)
    case atStart => exact ⟨0, [], Nat.zero_le _, by simp, by simp, Nat.le_refl _, ownI_nil _ _, World.iter_heap w1 _ 0, HB.out.alloc hK _⟩
    case round =>
      obtain ⟨k, done, hk, htk, hd, hdk, hown, hit, hbel⟩ := hrel
      have hip := iterPos_of hit
      by_cases hlt : k < l.length
      · obtain ⟨x, hx⟩ := HT.out
        obtain ⟨v, t, hv, hdr, htk2, hk2⟩ := txt_next hx hd htk hlt
        have hdec := decode_some (strOfNums l) k v t hv (by rw [HBL.out]; exact hdr)
        have hv0 : ((v.toNat : Nat) : Int) = v := Int.toNat_of_nonneg hv.1
        have hnx : ∀ ty, (Instr.next (.pointer (some ⟨w1.heap.size, 0, none⟩)) true ty).run Try.prog wr = .ok (.tuple #[.bool true, .int .i64 (k : Int), .int .i32 v]) (wr.iterAt w1.heap.size (strOfNums l) (k + (enc v).length)) := by
          intro ty
          rw [Lib.run_next_any_at wr w1.heap.size _ k ty hit (by rw [HSZ.out]; exact hlt), hdec, hv0]
        have hit2 := Lib.hid (Lib.iterAt_heap wr w1.heap.size _ k (k + (enc v).length) hit)
        have hbel2 := Lib.hid (Lib.below_iterAt hbel hK (strOfNums l) (k + (enc v).length))
        have HO := Lib.hid (hown.iterAt hit (k + (enc v).length))
        have hKr : w1.heap.size < (wr.iterAt w1.heap.size (strOfNums l) (k + (enc v).length)).heap.size := by rw [Lib.iterAt_size]; exact (Array.getElem?_eq_some_iff.1 hit).1
        have HV := Lib.hid hv
        have HTK := Lib.hid htk2
        have HD := Lib.hid hd
        have hen := (enc_len v).1
        obtain ⟨hv1, hv2, _⟩ := hv
        clear hdec hv0 hx hdr htk2 hd htk hown hit hbel
        revert hnx hit2 hbel2 HO hKr
        generalize wr.iterAt w1.heap.size (strOfNums l) (k + (enc v).length) = w2
        intro hnx hit2 hbel2 HO hKr
        have hB : w.heap.size ≤ w2.heap.size := by omega
        go_wp2_with (at_builtin; refine wp_intK w2 rfl (.tmp 18) (.tmp 21) rfl w.heap.size _ done v rfl HO.out rfl (by omega) hB ?_; intro v3 w3 ho3 hb3 hk3)
        go_roundw
        case rel => exact ⟨k + (enc v).length, done ++ [v], hk2, HTK.out, fun x hx => by
            rcases List.mem_append.1 hx with hx | hx
            · exact HD.out x hx
            · obtain rfl : x = v := by simpa using hx
              exact HV.out, by simp; omega, ho3, (hk3 _ hKr (HO.out.ne_iter hit2.out)).trans hit2.out, hbel2.out.trans hb3⟩
        case measure => rw [iterPos_of ((hk3 _ hKr (HO.out.ne_iter hit2.out)).trans hit2.out), hip]; omega
      · have hnx : ∀ ty, (Instr.next (.pointer (some ⟨w1.heap.size, 0, none⟩)) true ty).run Try.prog wr = .ok (.tuple #[.bool false]) wr := fun ty => Lib.run_next_end_at wr w1.heap.size _ k ty hit (by rw [HSZ.out]; exact hlt)
        obtain rfl : k = l.length := by omega
        have HD := Lib.hid hd
        have HTK := Lib.hid htk
        have HO := Lib.hid hown
        have HBel := Lib.hid hbel
        clear hd htk hown hbel hit
        go_wp2_with fail
        go_ret2
        exact ⟨.inl ⟨_, done, ⟨HD.out, by have := HTK.out; rwa [List.take_length] at this⟩, rfl, HO.out⟩, HBel.out⟩
theorem pfrom_none (A : Option Addr) (c : Nat) (w : World) : Calls Try.prog 12 #[.slice A 0 c] w (FrEnds [] w) := by
  go_enter Try.func12, Try.ntmps12
  go_wp2_with fail
  refine wp_loop_rounds 1 ?_
  rw [rounds_succ]
  go_wp2_with fail
  go_ret2
  exact ⟨.inl ⟨by simp, _, rfl, ownB_nil _ _⟩, Below.refl _ _⟩
theorem pfrom_some (g off c : Nat) (l : List Int) (w : World) (hg : g < w.heap.size) (hA : IntAt w g off l) (hl : l.length ≤ 100000) :
    Calls Try.prog 12 #[.slice (some ⟨g, off, none⟩) l.length c] w (FrEnds l w) := by
  have HA := Lib.hid hA
  have HG := Lib.hid hg
  clear hA hg
  go_enter Try.func12, Try.ntmps12
  go_wp2_with fail
  go_loopw [4, 9] (fun o i wr => ∃ k : Nat, i = .int .i64 (k : Int) ∧ k ≤ l.length ∧ (∀ v ∈ l.take k, okR v) ∧ OwnB wr w.heap.size o ((l.take k).flatMap enc) ∧ Below w.heap.size w wr) (fun _ i _ => l.length - (intOf i).toNat)
  case atStart => exact ⟨0, rfl, Nat.zero_le _, by simp, ownB_nil _ _, Below.refl _ _⟩
  case round =>
    obtain ⟨k, rfl, hk, hd, hown, hbel⟩ := hrel
    have HD := Lib.hid hd
    have HO := Lib.hid hown
    have HBel := Lib.hid hbel
    clear hd hown hbel
    by_cases hlt : k < l.length
    · have c1 : wr.cell? ⟨g, off + k, none⟩ = some (.int .i64 (l.getD k 0)) := (HA.out.keep HG.out HBel.out) k hlt
      have HT := Lib.hid (take_more hlt)
      have HM : Hid (l.getD k 0 ∈ l) := by show _ ∈ _; rw [show l.getD k 0 = l[k] from by simp [hlt]]; exact List.getElem_mem _
      have HFl : Hid ((List.flatMap enc (List.take k l)).length ≤ 1000000) := by
        show _ ≤ _
        have h1 := flat_len (l.take k)
        rw [List.length_take] at h1
        omega
      revert c1 HT HM
      generalize l.getD k 0 = x
      intro c1 HT HM
      have hk1 : (k : Int) < (l.length : Int) := by omega
      have HR := Lib.hid (is_rune x wr)
      by_cases hx : okR x
      · rw [decide_eq_true hx] at HR
        have HX := Lib.hid hx
        obtain ⟨x0, x1, _⟩ := hx
        go_wp2_with fail
        refine HR.out.mono ?_
        rintro e w1 ⟨rfl, hst⟩
        have hb1 := hst.below
        have HO1 := Lib.hid (HO.out.keep hb1)
        have HB1 := Lib.hid (HBel.out.trans (hb1.mono HBel.out.size))
        have hsz : w.heap.size ≤ w1.heap.size := HB1.out.size
        have HAp := Lib.hid (append_any w.heap.size _ _ x HX.out w1 HO1.out HFl.out hsz)
        clear hst hb1 c1
        go_wp2_with fail
        refine HAp.out.mono ?_
        rintro e w2 ⟨v2, rfl, ho2, hb2⟩
        have HO2 := Lib.hid ho2
        have HB2 := Lib.hid (HB1.out.trans hb2)
        clear ho2 hb2
        go_wp2_with fail
        go_roundw
        case rel => exact ⟨k + 1, by go_num, by omega, by
            rw [HT.out]
            intro y hy
            rcases List.mem_append.1 hy with hy | hy
            · exact HD.out y hy
            · obtain rfl : y = x := by simpa using hy
              exact HX.out, by rw [HT.out, List.flatMap_append]; simpa using HO2.out, HB2.out⟩
        case measure => simp [intOf]; omega
      · rw [decide_eq_false hx] at HR
        have HX := Lib.hid hx
        clear hx
        go_wp2_with fail
        refine HR.out.mono ?_
        rintro e w1 ⟨rfl, hst⟩
        have HB1 := Lib.hid (HBel.out.trans (hst.below.mono HBel.out.size))
        clear hst c1
        go_wp2_with fail
        go_ret2
        exact ⟨.inr ⟨⟨x, HM.out, HX.out⟩, rfl⟩, HB1.out⟩
    · obtain rfl : k = l.length := by omega
      have hD := HD.out
      have hO := HO.out
      rw [List.take_length] at hD hO
      have HD2 := Lib.hid hD
      have HO2 := Lib.hid hO
      clear hD hO
      go_wp2_with fail
      go_ret2
      exact ⟨.inl ⟨HD2.out, _, rfl, HO2.out⟩, HBel.out⟩
theorem pfrom_any (v : Value) (l : List Int) (w : World) (hv : SlI w v l) (hl : l.length ≤ 100000) : Calls Try.prog 12 #[v] w (FrEnds l w) := by
  obtain ⟨A, c, rfl, h2, h3, h4⟩ := hv
  by_cases h0 : l = []
  · subst h0
    exact pfrom_none A c w
  · obtain ⟨g, off, rfl, hg, hB⟩ := h4 h0
    exact pfrom_some g off c l w hg hB hl
end Go.Proofs.Ytfilcddkcbdbnaa.Utf
