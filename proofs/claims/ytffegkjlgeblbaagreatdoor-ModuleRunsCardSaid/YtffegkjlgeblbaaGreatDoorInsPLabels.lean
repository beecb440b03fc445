/- InsPLabels. -/
import Derived.Test.YtffegkjlgeblbaaGreatDoorPkInsPReader
import Derived.Test.YtffegkjlgeblbaaGreatDoorPkInsSame
/- The program's reader: a byte that has to be 0, what a block gives, labels. -/
namespace Go.Proofs.YtffegkjlgeblbaaGreatDoor.Ins
open Go.RowKit Ints Typ
set_option maxRecDepth 100000
set_option maxHeartbeats 1000000
set_option linter.unusedVariables false

theorem pzero_core {w0 w : World} {v : Value} {l : List Int} {g a : Nat} {e : Int} (hr : Rd w0 v l g w a e) (x e1 : Int) (a1 : Nat) (b : Bool) (hb : (x != 0) = b) (h1 : a1 ≤ l.length)
    (hN : ∀ W, Rd w0 v l g W a e → Calls Tryz.prog 283 #[.pointer (some ⟨g, 0, none⟩)] W (Turn v g (.int .u8 x) a1 e1 W)) :
    Calls Tryz.prog 288 #[.pointer (some ⟨g, 0, none⟩)] w (Turn v g (.tuple #[]) a1 (rf b e1 3) w) := by
  have HR := Lib.hid hr
  have HN := Lib.hid hN
  have HH1 := Lib.hid h1
  clear hr hN h1
  cases b with
  | true =>
    go_enter Tryz.func288, Tryz.ntmps288
    go_wp2_with fail
    refine (HN.out _ HR.out).mono ?_
    rintro en w1 ⟨rfl, hr1, hb1⟩
    have HR1 := Lib.hid (HR.out.turn hr1 hb1 HH1.out)
    have HB1 := Lib.hid hb1
    clear hr1 hb1
    go_wp2_with fail
    refine (pfail_any 3 HR1.out).mono ?_
    rintro en w2 ⟨rfl, hr2, hb2⟩
    have HR2 := Lib.hid hr2
    have HB2 := Lib.hid (HB1.out.trans hb2)
    clear hr2 hb2
    go_wp2_with fail
    refine bodyPost_end (v := .tuple #[]) (by simp [results, Tryz.results288, go_sem]) rfl ?_
    exact ⟨rfl, HR2.out, HB2.out⟩
  | false =>
    go_enter Tryz.func288, Tryz.ntmps288
    go_wp2_with fail
    refine (HN.out _ HR.out).mono ?_
    rintro en w1 ⟨rfl, hr1, hb1⟩
    have HR1 := Lib.hid hr1
    have HB1 := Lib.hid hb1
    clear hr1 hb1
    go_wp2_with fail
    refine bodyPost_end (v := .tuple #[]) (by simp [results, Tryz.results288, go_sem]) rfl ?_
    exact ⟨rfl, HR1.out, HB1.out⟩
theorem pzero_any {w0 w : World} {v : Value} {l : List Int} {g a : Nat} {e : Int} (h : Rd w0 v l g w a e) :
    Calls Tryz.prog 288 #[.pointer (some ⟨g, 0, none⟩)] w (Turn v g (.tuple #[]) (rb l a e).2.1 (rf ((rb l a e).1 != 0) (rb l a e).2.2 3) w) :=
  pzero_core h _ _ _ _ rfl (rb_le h.at_le) fun W H => pnext_any H
theorem rb_range {l : List Int} (hb : ∀ x ∈ l, 0 ≤ x ∧ x < 256) (a : Nat) (e : Int) : 0 ≤ (rb l a e).1 ∧ (rb l a e).1 < 256 := by
  unfold rb
  split
  · exact ⟨by simp, by simp⟩
  · split
    · exact ⟨by simp, by simp⟩
    · rename_i h
      exact hb _ (by rw [List.getD_eq_getElem?_getD, List.getElem?_eq_getElem (by omega)]; simp)
theorem presult_core {w0 w : World} {v : Value} {l : List Int} {g a : Nat} {e : Int} (hr : Rd w0 v l g w a e) (x e1 : Int) (a1 : Nat) (b b2 b3 : Bool) (hb : (x == 64) = b) (hb2 : (x != 127) = b2) (hb3 : (x != 126) = b3) (hx : IntKind.i64.wrap x = x) (h1 : a1 ≤ l.length)
    (hN : ∀ W, Rd w0 v l g W a e → Calls Tryz.prog 283 #[.pointer (some ⟨g, 0, none⟩)] W (Turn v g (.int .u8 x) a1 e1 W)) :
    Calls Tryz.prog 285 #[.pointer (some ⟨g, 0, none⟩)] w (Turn v g (.int .i64 (bif b then 0 else x)) a1 (rf (!b && (b2 && b3)) e1 3) w) := by
  have HR := Lib.hid hr
  have HN := Lib.hid hN
  have HH1 := Lib.hid h1
  clear hr hN h1
  cases b with
  | true =>
    go_enter Tryz.func285, Tryz.ntmps285
    go_wp2_with fail
    refine (HN.out _ HR.out).mono ?_
    rintro en w1 ⟨rfl, hr1, hb1⟩
    have HR1 := Lib.hid hr1
    have HB1 := Lib.hid hb1
    clear hr1 hb1
    go_wp2_with fail
    go_ret
    exact ⟨rfl, HR1.out, HB1.out⟩
  | false =>
    by_cases hq : (b2 && b3) = true
    · obtain ⟨rfl, rfl⟩ : b2 = true ∧ b3 = true := by simpa using hq
      clear hq
      go_enter Tryz.func285, Tryz.ntmps285
      go_wp2_with fail
      refine (HN.out _ HR.out).mono ?_
      rintro en w1 ⟨rfl, hr1, hb1⟩
      have HR1 := Lib.hid (HR.out.turn hr1 hb1 HH1.out)
      have HB1 := Lib.hid hb1
      clear hr1 hb1
      go_wp2_with fail
      refine (pfail_any 3 HR1.out).mono ?_
      rintro en w2 ⟨rfl, hr2, hb2⟩
      have HR2 := Lib.hid hr2
      have HB2 := Lib.hid (HB1.out.trans hb2)
      clear hr2 hb2
      go_wp2_with fail
      go_ret
      exact ⟨rfl, HR2.out, HB2.out⟩
    · have hq2 : (b2 && b3) = false := by simpa using hq
      rw [hq2]
      clear hq
      cases b2 with
      | true =>
        obtain rfl : b3 = false := by simpa using hq2
        clear hq2
        go_enter Tryz.func285, Tryz.ntmps285
        go_wp2_with fail
        refine (HN.out _ HR.out).mono ?_
        rintro en w1 ⟨rfl, hr1, hb1⟩
        have HR1 := Lib.hid hr1
        have HB1 := Lib.hid hb1
        clear hr1 hb1
        go_wp2_with fail
        go_ret
        exact ⟨rfl, HR1.out, HB1.out⟩
      | false =>
        clear hq2 hb3
        go_enter Tryz.func285, Tryz.ntmps285
        go_wp2_with fail
        refine (HN.out _ HR.out).mono ?_
        rintro en w1 ⟨rfl, hr1, hb1⟩
        have HR1 := Lib.hid hr1
        have HB1 := Lib.hid hb1
        clear hr1 hb1
        go_wp2_with fail
        go_ret
        exact ⟨rfl, HR1.out, HB1.out⟩
/-- What a block gives: 0 is nothing. -/
def rz (x : Int) : Int := if x = 64 then 0 else x
theorem presult_any {w0 w : World} {v : Value} {l : List Int} {g a : Nat} {e : Int} (h : Rd w0 v l g w a e) :
    Calls Tryz.prog 285 #[.pointer (some ⟨g, 0, none⟩)] w (Turn v g (.int .i64 (rz (rb l a e).1)) (rb l a e).2.1 (rf ((rb l a e).1 != 64 && ((rb l a e).1 != 126 && (rb l a e).1 != 127)) (rb l a e).2.2 3) w) := by
  have hx := rb_range h.by_ a e
  have := presult_core h (rb l a e).1 _ _ _ _ _ rfl rfl rfl (IntWalk.i64_in _ (by omega)) (rb_le h.at_le) fun W H => pnext_any H
  have e1 : (bif ((rb l a e).1 == 64) then (0 : Int) else (rb l a e).1) = rz (rb l a e).1 := by
    unfold rz
    by_cases h64 : (rb l a e).1 = 64
    · simp [h64]
    · rw [if_neg h64, show ((rb l a e).1 == 64) = false from by simpa using h64]
      rfl
  have e2 : (!((rb l a e).1 == 64) && ((rb l a e).1 != 127 && (rb l a e).1 != 126)) = ((rb l a e).1 != 64 && ((rb l a e).1 != 126 && (rb l a e).1 != 127)) := by
    rw [Bool.and_comm ((rb l a e).1 != 127)]
    rfl
  rw [e1, e2] at this
  exact this
/-- 'append(s, y)' on whole numbers of the call's own. -/
theorem wp_oneI {ops : Array Oper} {rest : List Oper} {o : Oper} {a : Act} {Q : Exit → Act → World → Prop} (w : World) (hgd : o.guard = none) (s x : Operand)
    (ho : o.op = .call { callee := .builtin .append, args := #[s, x], argTypes := #[26, 26] }) (B : Nat) (v : Value) (done : List Int) (y : Int) (hs : a.eval s = v) (hown : OwnI w B v done)
    (hx : a.eval x = .slice (some ⟨w.heap.size, 0, none⟩) 1 1) (hlen : done.length ≤ 10000000) (hB : B ≤ w.heap.size)
    (h : ∀ v' w', OwnI w' B v' (done ++ [y]) → Below B w w' → wpList Tryz.prog ops Q rest (a.put o.dst v') w') : wpList Tryz.prog ops Q (o :: rest) a (w.alloc (.cells #[.int .i64 y] 3)) := by
  obtain ⟨i0, hi, hz0, hz1, hz2⟩ := info_parts int_info
  refine wpList_append_own _ hgd s x 26 ho B 3 i0 (.int .i64 0) 1 8 Tryz.underlying26 hi hz0 hz1 hz2 rfl (by decide) v _ _ hs (World.ownsRow.alloc hown _) ⟨w.heap.size, 0, none⟩ 1 1 [.int .i64 y] hx rfl (one_newI w _) (by intro u hu; simp at hu; subst hu; rfl) (by simp only [maxLen]; omega) (by omega) (by simp; omega) ?_
  intro v' w' ho' hg hn
  refine h v' w' ?_ (((Below.refl _ _).alloc hB _).grown hg (by simp; omega) (fun k hk => (World.ownsRow.lt hown k hk).1))
  have ho2 : w'.ownsRow B 3 1 v' (done ++ [y]).length (vi (done ++ [y])) := by simpa [vi] using ho'
  exact ho2
/-- Labels: as many numbers as are asked for; behind an error they are 0. -/
def plb (l : List Int) : Nat → List Int → Nat → Int → List Int × Nat × Int
  | 0, L, a, e => (L, a, e)
  | n + 1, L, a, e => plb l n (L ++ [(pu l a e).1]) (pu l a e).2.1 (pu l a e).2.2
theorem plb_one {l : List Int} {k N : Nat} {L : List Int} {b : Nat} {e : Int} (h : k < N) : plb l (N - (k + 1)) (L ++ [(pu l b e).1]) (pu l b e).2.1 (pu l b e).2.2 = plb l (N - k) L b e := by
  rw [show N - k = (N - (k + 1)) + 1 from by omega]
  rfl
theorem plb_le {l : List Int} : ∀ (n : Nat) (L : List Int) (a : Nat) (e : Int), a ≤ l.length → (plb l n L a e).2.1 ≤ l.length
  | 0, _, _, _, h => h
  | n + 1, _, _, _, h => plb_le n _ _ _ (pu_le h)
/-- Labels, told; the place; the error. -/
def LabTold (v : Value) (g : Nat) (x : List Int × Nat × Int) (w : World) (en : Ending) (w' : World) : Prop := ∃ o, en = .returned o ∧ OwnI w' w.heap.size o x.1 ∧ RdAt w' g v (x.2.1 : Int) x.2.2 ∧ But g w w'
def PMid (w0 : World) (v : Value) (l : List Int) (g : Nat) (w : World) (N : Nat) (R : List Int × Nat × Int) (k : Nat) (L : List Int) (a : Nat) (e : Int) (o : Value) (wr : World) : Prop :=
  k ≤ N ∧ plb l (N - k) L a e = R ∧ L.length = k ∧ Rd w0 v l g wr a e ∧ OwnI wr w.heap.size o L ∧ But g w wr
theorem plab_many {w0 w : World} {v : Value} {l : List Int} {g a : Nat} {e : Int} (hr : Rd w0 v l g w a e) (N a1 : Nat) (e1 : Int) (q1 : decide ((64 : Int) < (N : Int)) = true) (h1 : a1 ≤ l.length)
    (hN : ∀ W, Rd w0 v l g W a e → Calls Tryz.prog 286 #[.pointer (some ⟨g, 0, none⟩)] W (Turn v g (.int .i64 (N : Int)) a1 e1 W)) :
    Calls Tryz.prog 287 #[.pointer (some ⟨g, 0, none⟩)] w (LabTold v g ([], a1, rf true e1 4) w) := by
  have HR := Lib.hid hr
  have HN := Lib.hid hN
  have HH1 := Lib.hid h1
  clear hr hN h1
  go_enter Tryz.func287, Tryz.ntmps287
  go_wp2_with fail
  refine (HN.out _ HR.out).mono ?_
  rintro en w1 ⟨rfl, hr1, hb1⟩
  have HR1 := Lib.hid (HR.out.turn hr1 hb1 HH1.out)
  have HB1 := Lib.hid hb1
  clear hr1 hb1
  go_wp2_with fail
  refine (pfail_any 4 HR1.out).mono ?_
  rintro en w2 ⟨rfl, hr2, hb2⟩
  have HR2 := Lib.hid hr2
  have HB2 := Lib.hid (HB1.out.trans hb2)
  clear hr2 hb2
  go_wp2_with fail
  go_ret
  exact ⟨_, rfl, ownI_nil _ _, HR2.out, HB2.out⟩
theorem plab_few {w0 w : World} {v : Value} {l : List Int} {g a : Nat} {e : Int} (hr : Rd w0 v l g w a e) (N a1 : Nat) (e1 : Int) (q1 : decide ((64 : Int) < (N : Int)) = false) (h1 : a1 ≤ l.length)
    (hN : ∀ W, Rd w0 v l g W a e → Calls Tryz.prog 286 #[.pointer (some ⟨g, 0, none⟩)] W (Turn v g (.int .i64 (N : Int)) a1 e1 W)) :
    Calls Tryz.prog 287 #[.pointer (some ⟨g, 0, none⟩)] w (LabTold v g (plb l N [] a1 e1) w) := by
  have hN64 : N ≤ 64 := by have := q1; simp at this; omega
  have HR := Lib.hid hr
  have HN := Lib.hid hN
  have HH1 := Lib.hid h1
  have HG : Hid (g < w.heap.size) := hr.rd.lt
  have H0 : Hid (w0.heap.size ≤ w.heap.size) := hr.below.size
  clear hr hN h1
  go_enter Tryz.func287, Tryz.ntmps287
  go_wp2_with fail
  refine (HN.out _ HR.out).mono ?_
  rintro en w1 ⟨rfl, hr1, hb1⟩
  have HR1 := Lib.hid (HR.out.turn hr1 hb1 HH1.out)
  have HB1 := Lib.hid hb1
  clear hr1 hb1
  go_wp2_with fail
  go_loopw [4, 12] (fun v' j' wr => ∃ (k : Nat) (L : List Int) (a : Nat) (e : Int), j' = .int .i64 (k : Int) ∧ PMid w0 v l g w N (plb l N [] a1 e1) k L a e v' wr) (fun _ j' _ => N - (intOf j').toNat)
  case atStart => exact ⟨0, [], a1, e1, rfl, Nat.zero_le _, rfl, rfl, HR1.out, ownI_nil _ _, HB1.out⟩
  case round =>
    clear HR1 HB1
    obtain ⟨k, L, b, d, rfl, hk, hL, hlen, hR, hOw, hBt⟩ := hrel
    have HR := Lib.hid hR
    have HB := Lib.hid hBt
    have HOw := Lib.hid hOw
    have HL := Lib.hid hL
    clear hR hBt hOw hL
    by_cases hlt : k < N
    · have c1 : decide ((k : Int) < (N : Int)) = true := by simpa using hlt
      go_wp2_with fail
      refine (pu_any HR.out).mono ?_
      rintro en w2 ⟨rfl, hr2, hb2⟩
      have HR2 := Lib.hid (HR.out.turn hr2 hb2 (pu_le HR.out.at_le))
      have HB2 := Lib.hid (HB.out.trans hb2)
      have HOw2 := Lib.hid (HOw.out.but hb2 HG.out)
      clear hr2 hb2
      go_wp2_with (at_builtin; refine wp_oneI w2 rfl (.tmp 14) (.tmp 17) rfl w.heap.size _ L _ rfl HOw2.out rfl (by omega) HB2.out.size ?_; intro v3 w3 ho3 hb3; have HO3 := Lib.hid ho3; have HR3 := Lib.hid (HR2.out.kept hb3 HG.out H0.out); have HB3 := Lib.hid (HB2.out.kept hb3 (Nat.le_refl _)); clear ho3 hb3; go_wp2_with fail)
      go_roundw
      case rel => exact ⟨k + 1, L ++ [(pu l b d).1], _, _, by go_num, hlt, (plb_one hlt).trans HL.out, by simp [hlen], HR3.out, HO3.out, HB3.out⟩
      case measure => simp [intOf]; omega
    · have c1 : decide ((k : Int) < (N : Int)) = false := by simpa using hlt
      have hx : plb l (N - k) L b d = (L, b, d) := by rw [show N - k = 0 from by omega]; rfl
      have hy : plb l N [] a1 e1 = (L, b, d) := HL.out.symm.trans hx
      have HY := Lib.hid hy
      clear hx hy
      go_wp2_with fail
      go_ret
      rw [HY.out]
      exact ⟨_, rfl, HOw.out, HR.out.rd, HB.out⟩
theorem pu_range {l : List Int} (hb : ∀ x ∈ l, 0 ≤ x ∧ x < 256) (a : Nat) (e : Int) : 0 ≤ (pu l a e).1 ∧ (pu l a e).1 < 4294967296 := by
  unfold pu
  split
  · exact ⟨by simp, by simp⟩
  · cases hr : Leb.rdl Leb.fitU 32 (l.drop a) 0 0 with
    | short => exact ⟨by simp, by simp⟩
    | form => exact ⟨by simp, by simp⟩
    | ok n m =>
      have hn := (rdl32 (fun x hx => hb x (List.mem_of_mem_drop hx)) hr).1
      exact ⟨by simp, by simp; omega⟩
/-- Labels, by the program. -/
def pla (l : List Int) (a : Nat) (e : Int) : List Int × Nat × Int := if 64 < (pu l a e).1 then ([], (pu l a e).2.1, rf true (pu l a e).2.2 4) else plb l (pu l a e).1.toNat [] (pu l a e).2.1 (pu l a e).2.2
theorem plabels_any {w0 w : World} {v : Value} {l : List Int} {g a : Nat} {e : Int} (h : Rd w0 v l g w a e) :
    Calls Tryz.prog 287 #[.pointer (some ⟨g, 0, none⟩)] w (LabTold v g (pla l a e) w) := by
  have hx := pu_range h.by_ a e
  have hn : (((pu l a e).1.toNat : Nat) : Int) = (pu l a e).1 := by omega
  have hN : ∀ W, Rd w0 v l g W a e → Calls Tryz.prog 286 #[.pointer (some ⟨g, 0, none⟩)] W (Turn v g (.int .i64 (((pu l a e).1.toNat : Nat) : Int)) (pu l a e).2.1 (pu l a e).2.2 W) := fun W H => by rw [hn]; exact pu_any H
  unfold pla
  by_cases h64 : 64 < (pu l a e).1
  · rw [if_pos h64]
    exact plab_many h _ _ _ (by rw [hn]; simpa using h64) (pu_le h.at_le) hN
  · rw [if_neg h64]
    exact plab_few h _ _ _ (by rw [hn]; simpa using h64) (pu_le h.at_le) hN
theorem pla_le {l : List Int} {a : Nat} {e : Int} (h : a ≤ l.length) : (pla l a e).2.1 ≤ l.length := by
  unfold pla
  split
  · exact pu_le h
  · exact plb_le _ _ _ _ (pu_le h)
end Go.Proofs.YtffegkjlgeblbaaGreatDoor.Ins
