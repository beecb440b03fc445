/- The document's reader: a BrTable. -/
import Derived.Test.YtmjimijolfjhmaaDoorInsInstr
import Derived.Deep.RegionLaw
namespace Go.Proofs.YtmjimijolfjhmaaDoor.Ins
open Go.RowKit Ints Typ
set_option maxRecDepth 100000
set_option maxHeartbeats 2000000

/-- The labels. -/
def lb (l : List Int) : Nat → List Int → Nat → Int → List Int × Nat × Int
  | 0, L, a, e => (L, a, e)
  | n + 1, L, a, e => if e = 0 then lb l n (L ++ [(ru l a e).1]) (ru l a e).2.1 (ru l a e).2.2 else (L, a, e)
theorem lb_err {l : List Int} {n : Nat} {L : List Int} {a : Nat} {e : Int} (h : e ≠ 0) : lb l n L a e = (L, a, e) := by
  cases n
  · rfl
  · exact if_neg h
theorem lb_le {l : List Int} : ∀ (n : Nat) (L : List Int) (a : Nat) (e : Int), a ≤ l.length → (lb l n L a e).2.1 ≤ l.length
  | 0, _, _, _, h => h
  | n + 1, L, a, e, h => by
    show (if e = 0 then lb l n (L ++ [(ru l a e).1]) (ru l a e).2.1 (ru l a e).2.2 else (L, a, e)).2.1 ≤ l.length
    split
    · exact lb_le n _ _ _ (ru_le h)
    · exact h
theorem OwnI.at_ {w w' : World} {B : Nat} {v : Value} {l : List Int} (h : OwnI w B v l) (hk : ∀ k, B ≤ k → k < w.heap.size → w'.heap[k]? = w.heap[k]?) : OwnI w' B v l := by
  obtain ⟨h1, h2⟩ := h
  refine ⟨h1, ?_⟩
  rcases h2 with h2 | ⟨g, cap, cur, e1, e2, e3, e4⟩
  · exact .inl h2
  · exact .inr ⟨g, cap, cur, e1, e2, (hk g e2 (Array.getElem?_eq_some_iff.1 e3).1).trans e3, e4⟩
theorem OwnI.mono {w : World} {B B' : Nat} {v : Value} {l : List Int} (h : OwnI w B v l) (hB : B' ≤ B) : OwnI w B' v l := by
  obtain ⟨h1, h2⟩ := h
  refine ⟨h1, ?_⟩
  rcases h2 with h2 | ⟨g, cap, cur, e1, e2, e3⟩
  · exact .inl h2
  · exact .inr ⟨g, cap, cur, e1, Nat.le_trans hB e2, e3⟩
theorem OwnI.form {w : World} {B : Nat} {v : Value} {l : List Int} (h : OwnI w B v l) : ∃ P c, v = .slice P l.length c := by
  rcases h.2 with ⟨e, hn⟩ | ⟨p, c, _, e, _⟩
  · exact ⟨none, 0, by rw [e, hn]⟩
  · exact ⟨_, c, e⟩
theorem OwnI.but {w w' : World} {g B : Nat} {v : Value} {l : List Int} (h : OwnI w B v l) (hb : But g w w') (hg : g < B) : OwnI w' B v l := h.at_ fun k hk hl => hb.block k hl (by omega)
theorem OwnI.far {w : World} {B : Nat} {v : Value} {l : List Int} (h : OwnI w B v l) {p : Addr} (hp : p.block < B) (u : Value) : OwnI (w.setCell p u) B v l := h.at_ fun k hk _ => Below.heap_setCell _ _ _ _ (by omega)
theorem OwnI.keep {w w' : World} {B : Nat} {v : Value} {l : List Int} (h : OwnI w B v l) (hb : Below w.heap.size w w') : OwnI w' B v l := h.at_ fun k _ hl => hb.block k hl
theorem vi_length (l : List Int) : (vi l).length = l.length := by simp [vi]
theorem RdAt.kept {w w' : World} {g B : Nat} {v : Value} {a e : Int} (h : RdAt w g v a e) (hb : Below B w w') (hg : g < B) : RdAt w' g v a e :=
  ⟨Nat.lt_of_lt_of_le h.lt hb.size, by rw [hb.cell (p := ⟨g, 0, none⟩) hg]; exact h.c0, by rw [hb.cell (p := ⟨g, 1, none⟩) hg]; exact h.c1, by rw [hb.cell (p := ⟨g, 2, none⟩) hg]; exact h.c2,
    by rw [hb.frozen (p := ⟨g, 0, none⟩) hg]; exact h.f0, by rw [hb.frozen (p := ⟨g, 1, none⟩) hg]; exact h.f1, by rw [hb.frozen (p := ⟨g, 2, none⟩) hg]; exact h.f2⟩
theorem Rd.kept {w0 w w' : World} {v : Value} {l : List Int} {g a B : Nat} {e : Int} (h : Rd w0 v l g w a e) (hb : Below B w w') (hg : g < B) (h0 : w0.heap.size ≤ B) : Rd w0 v l g w' a e :=
  ⟨h.sl, h.by_, h.len, h.at_le, h.base, h.below.trans (hb.mono h0), h.rd.kept hb hg⟩
theorem InAt.kept {w w' : World} {h B : Nat} {op A B' K : Int} {o : Value} (x : InAt w h op A B' K o) (hb : Below B w w') (hh : h < B) : InAt w' h op A B' K o := by
  obtain ⟨h0, c0, c1, c2, c3, c4, f0, f1, f2, f3, f4⟩ := x
  have key : ∀ i, w'.cell? ⟨h, i, none⟩ = w.cell? ⟨h, i, none⟩ := fun i => hb.cell (p := ⟨h, i, none⟩) hh
  have fey : ∀ i, w'.frozen? ⟨h, i, none⟩ = w.frozen? ⟨h, i, none⟩ := fun i => hb.frozen (p := ⟨h, i, none⟩) hh
  exact ⟨Nat.lt_of_lt_of_le h0 hb.size, by rw [key]; exact c0, by rw [key]; exact c1, by rw [key]; exact c2, by rw [key]; exact c3, by rw [key]; exact c4, by rw [fey]; exact f0, by rw [fey]; exact f1, by rw [fey]; exact f2, by rw [fey]; exact f3, by rw [fey]; exact f4⟩
theorem But.kept {g B : Nat} {a w w' : World} (h : But g a w) (hb : Below B w w') (hB : a.heap.size ≤ B) : But g a w' := h.trans' hb.size (fun k hk => hb.block k (by omega)) hb.os hb.tape hb.output
theorem drewB (w : World) : Below w.heap.size w w.drew := ⟨rfl, rfl, rfl, Nat.le_refl _, fun _ _ => rfl⟩
theorem int_info : (Tryd.prog.info? 3).map (fun i => (i.zero, i.size, i.bytes)) = some (some (.int .i64 0), 1, 8) := by kernel_rfl
theorem one_newI (w : World) (v : Value) : ∀ j u, [v][j]? = some u → (w.alloc (.cells #[v] 3)).cell? ((⟨w.heap.size, 0, none⟩ : Addr).add j) = some u := by
  intro j u hu
  rcases j with _ | j
  · simp at hu
    subst hu
    simp [Addr.add]
  · simp at hu
/-- 'append(s, y)' on whole numbers of the call's own, as a step of a region that draws its order. -/
theorem step_int {ops : Array Oper} {o : Oper} {a : Act} {K : Act → World → Prop} {Q : Exit → Act → World → Prop} {E : Prop} (w : World) (hgd : o.guard = none) (s x : Operand)
    (ho : o.op = .call { callee := .builtin .append, args := #[s, x], argTypes := #[24, 24] }) (B : Nat) (v : Value) (done : List Int) (y : Int) (hs : a.eval s = v) (hown : OwnI w B v done)
    (hx : a.eval x = .slice (some ⟨w.heap.size, 0, none⟩) 1 1) (hlen : done.length ≤ 10000000) (hB : B ≤ w.heap.size)
    (h : ∀ p c w', OwnI w' B (.slice (some ⟨p, 0, none⟩) (done ++ [y]).length c) (done ++ [y]) → Below B w w' → K (a.put o.dst (.slice (some ⟨p, 0, none⟩) (done ++ [y]).length c)) w') : if Region.wanted o (yielded ops a.tmps) = true then Oper.wp Tryd.prog o a (w.alloc (.cells #[.int .i64 y] 3)) K Q else E := by
  have hw : Region.wanted o (yielded ops a.tmps) = true := by simp [Region.wanted, hgd]
  rw [if_pos hw]
  obtain ⟨i0, hi, hz0, hz1, hz2⟩ := info_parts int_info
  refine wp_append_own _ s x 24 ho B 3 i0 (.int .i64 0) 1 8 Tryd.underlying24 hi hz0 hz1 hz2 rfl (by decide) v _ _ hs (World.ownsRow.alloc hown _) ⟨w.heap.size, 0, none⟩ 1 1 [.int .i64 y] hx rfl (one_newI w _) (by intro u hu; simp at hu; subst hu; rfl) (by simp only [maxLen]; omega) (by omega) (by simp; omega) ?_
  intro v' w' ho' hg hn
  have hbel : Below B w w' := ((Below.refl _ _).alloc hB _).grown hg (by simp; omega) (fun k hk => (World.ownsRow.lt hown k hk).1)
  have ho2 : w'.ownsRow B 3 1 v' (done ++ [y]).length (vi (done ++ [y])) := by simpa [vi] using ho'
  have hform : ∃ p c, v' = .slice (some ⟨p, 0, none⟩) (done ++ [y]).length c := by
    rcases ho2.2 with ⟨_, hn0⟩ | ⟨p, c, _, e1, _⟩
    · simp at hn0
    · exact ⟨p, c, e1⟩
  obtain ⟨p, c, rfl⟩ := hform
  exact h p c w' ho2 hbel
theorem lb_one {l : List Int} {k N : Nat} {L : List Int} {b : Nat} (h : k < N) : lb l (N - (k + 1)) (L ++ [(ru l b 0).1]) (ru l b 0).2.1 (ru l b 0).2.2 = lb l (N - k) L b 0 := by
  rw [show N - k = (N - (k + 1)) + 1 from by omega]
  exact (if_pos rfl).symm
/-- How far the labels are told. -/
def LbMid (w0 : World) (v : Value) (l : List Int) (g : Nat) (w : World) (h N : Nat) (op : Int) (R : List Int × Nat × Int) (B : Nat) (k : Nat) (L : List Int) (a : Nat) (e : Int) (o : Value) (wr : World) : Prop :=
  k ≤ N ∧ lb l (N - k) L a e = R ∧ L.length = k ∧ (e = 0 → N ≤ 64) ∧ Rd w0 v l g wr a e ∧ InAt wr h op 0 0 0 o ∧ OwnI wr B o L ∧ InAt wr w.heap.size 0 0 0 0 (.slice none 0 0) ∧ But g w wr ∧ B ≤ wr.heap.size
theorem ins_table {w0 w : World} {v : Value} {l : List Int} {g a : Nat} {e : Int} (hr : Rd w0 v l g w a e) (op e1 : Int) (a1 : Nat) (N : Nat) (t : Bool) (a3 : Nat) (e3 : Int) (f4 : Int) (LL : List Int) (bb : Nat) (dd : Int)
    (h1 : a1 ≤ l.length)
    (hB : ∀ W, Rd w0 v l g W a e → Calls Tryd.prog 48 #[.pointer (some ⟨g, 0, none⟩)] W (Turn v g (.int .i64 op) a1 e1 W))
    (hK : ∀ W, Calls Tryd.prog 22 #[.int .i64 op] W fun en w' => en = .returned (.int .i64 4) ∧ Below W.heap.size W w')
    (q1 : decide ((64 : Int) < (N : Int)) = t)
    (hU3 : ∀ W, Rd w0 v l g W a1 e1 → Calls Tryd.prog 50 #[.pointer (some ⟨g, 0, none⟩)] W (Turn v g (.int .i64 (N : Int)) a3 e3 W))
    (hl3 : a3 ≤ l.length)
    (hF4 : ∀ W, Rd w0 v l g W a3 e3 → Calls Tryd.prog 49 #[.pointer (some ⟨g, 0, none⟩), .bool t, .int .i64 4] W (Turn v g (.tuple #[]) a3 f4 W))
    (q2 : f4 = 0 → N ≤ 64)
    (hRq : lb l N [] a3 f4 = (LL, bb, dd))
    : Calls Tryd.prog 25 #[.pointer (some ⟨g, 0, none⟩)] w (InTold v g op (ru l bb dd).1 0 0 LL (ru l bb dd).2.1 (ru l bb dd).2.2 w) := by
  have HR := Lib.hid hr
  have HG : Hid (w.heap.size ≠ g) := by have := hr.rd.lt; show _ ≠ _; omega
  have HH1 := Lib.hid h1
  have HB0 := Lib.hid hB
  have HK := Lib.hid hK
  have HU3 := Lib.hid hU3
  have HF4 := Lib.hid hF4
  have HRq := Lib.hid hRq
  clear hr h1 hB hK hU3 hF4 hRq
  go_enter Tryd.func25, Tryd.ntmps25
  go_wp2_with fail
  have HA := Lib.hid ((Below.refl w.heap.size w).alloc (Nat.le_refl _) (.cells #[.int .i64 0, .int .i64 0, .int .i64 0, .int .u64 0, .slice none 0 0] 26))
  refine (HB0.out _ (HR.out.keep HA.out)).mono ?_
  rintro en w1 ⟨rfl, hr1, hb1⟩
  have HR := Lib.hid ((HR.out.keep HA.out).turn hr1 hb1 HH1.out)
  have HO := Lib.hid ((InAt.at_ w w.heap.size 0 0 0 0 (.slice none 0 0) 26 rfl).but hb1 HG.out)
  have HB := Lib.hid (((But.refl g w).allocHigh (.cells #[.int .i64 0, .int .i64 0, .int .i64 0, .int .u64 0, .slice none 0 0] 26)).trans hb1)
  clear hr1 hb1
  go_wp2_with fail
  have HA1 := Lib.hid ((Below.refl w1.heap.size w1).alloc (Nat.le_refl _) (.cells #[.int .i64 op, .int .i64 0, .int .i64 0, .int .u64 0, .slice none 0 0] 26))
  refine (HK.out _).mono ?_
  rintro en w2 ⟨rfl, hb2⟩
  have HC := Lib.hid (HA1.out.trans (hb2.mono HA1.out.size))
  have HI := Lib.hid ((InAt.at_ w1 w1.heap.size op 0 0 0 (.slice none 0 0) 26 rfl).keep hb2)
  have HHG : Hid (w1.heap.size ≠ g) := by have := HR.out.rd.lt; show _ ≠ _; omega
  have HW0 : Hid (w0.heap.size ≤ w1.heap.size) := HR.out.below.size
  have HWW : Hid (w.heap.size ≤ w1.heap.size) := HB.out.size
  have HHO : Hid (w1.heap.size ≠ w.heap.size) := by have := HO.out.lt; show _ ≠ _; omega
  have HR := Lib.hid (HR.out.keep HC.out)
  have HO := Lib.hid (HO.out.keep HC.out)
  have HB := Lib.hid (HB.out.trans (But.of_below HC.out))
  clear hb2
  obtain ⟨i0, ic0, ic1, ic2, ic3, ic4, if0, if1, if2, if3, if4⟩ := HI.out
  go_wp2_with fail
  refine (fail_no 3 HR.out).mono ?_
  rintro en w3 ⟨rfl, hr, hb⟩
  have HR := Lib.hid (HR.out.turn hr hb HR.out.at_le)
  have HI := Lib.hid (HI.out.but hb HHG.out)
  have HO := Lib.hid (HO.out.but hb HG.out)
  have HB := Lib.hid (HB.out.trans hb)
  clear hr hb
  clear i0 ic0 ic1 ic2 ic3 ic4 if0 if1 if2 if3 if4
  obtain ⟨i0, ic0, ic1, ic2, ic3, ic4, if0, if1, if2, if3, if4⟩ := HI.out
  go_wp2_with fail
  refine (HU3.out _ HR.out).mono ?_
  rintro en w4 ⟨rfl, hr, hb⟩
  have HR := Lib.hid (HR.out.turn hr hb hl3)
  have HI := Lib.hid (HI.out.but hb HHG.out)
  have HO := Lib.hid (HO.out.but hb HG.out)
  have HB := Lib.hid (HB.out.trans hb)
  clear hr hb
  clear i0 ic0 ic1 ic2 ic3 ic4 if0 if1 if2 if3 if4
  obtain ⟨i0, ic0, ic1, ic2, ic3, ic4, if0, if1, if2, if3, if4⟩ := HI.out
  go_wp2_with fail
  refine (HF4.out _ HR.out).mono ?_
  rintro en w5 ⟨rfl, hr, hb⟩
  have HR := Lib.hid (HR.out.turn hr hb HR.out.at_le)
  have HI := Lib.hid (HI.out.but hb HHG.out)
  have HO := Lib.hid (HO.out.but hb HG.out)
  have HB := Lib.hid (HB.out.trans hb)
  clear hr hb
  clear i0 ic0 ic1 ic2 ic3 ic4 if0 if1 if2 if3 if4
  obtain ⟨i0, ic0, ic1, ic2, ic3, ic4, if0, if1, if2, if3, if4⟩ := HI.out
  have Q2 := Lib.hid q2
  clear q2
  have HGB : Hid (g < w5.heap.size) := HR.out.rd.lt
  have HIB : Hid (w1.heap.size < w5.heap.size) := HI.out.lt
  have HOB : Hid (w.heap.size < w5.heap.size) := HO.out.lt
  have H0B : Hid (w0.heap.size ≤ w5.heap.size) := HR.out.below.size
  go_wp2_with fail
  clear ic0 ic1 ic2 ic3 ic4 if0 if1 if2 if3 if4
  go_loopw [6] (fun j' wr => ∃ (k : Nat) (L : List Int) (a : Nat) (e : Int) (o : Value), j' = .int .i64 (k : Int) ∧ LbMid w0 v l g w w1.heap.size N op (lb l N [] a3 f4) w5.heap.size k L a e o wr) (fun j' _ => N - (intOf j').toNat)
  case atStart => exact ⟨0, [], a3, f4, _, rfl, Nat.zero_le _, rfl, rfl, Q2.out, HR.out, HI.out, ownI_nil _ _, HO.out, HB.out, Nat.le_refl _⟩
  case round =>
    clear HR HI HO HB
    obtain ⟨k, L, b, d, o, rfl, hk, hL, hlen, h64, hR, hI, hOw, hO, hBt, hsz⟩ := hrel
    have HR := Lib.hid hR
    have HI := Lib.hid hI
    have HO := Lib.hid hO
    have HB := Lib.hid hBt
    have HOw := Lib.hid hOw
    have HL := Lib.hid hL
    have H64 := Lib.hid h64
    clear hR hI hO hBt hOw hL h64
    obtain ⟨r0, rc0, rc1, rc2, rf0, rf1, rf2⟩ := HR.out.rd
    obtain ⟨P, c, ho⟩ := HOw.out.form
    rw [hlen] at ho
    subst ho
    by_cases hlt : k < N
    · by_cases hd : d = 0
      · subst hd
        have hN := H64.out rfl
        have c1 : decide ((k : Int) < (N : Int)) = true := by simpa using hlt
        obtain ⟨i0, ic0, ic1, ic2, ic3, ic4, if0, if1, if2, if3, if4⟩ := HI.out
        have HRd := Lib.hid (HR.out.keep (drewB _))
        have HOwd := Lib.hid (HOw.out.keep (drewB _))
        go_wp2_with fail
        go_region_law (first | (go_simp; go_at_call 50; refine (u_any HRd.out).mono ?_; rintro en w6 ⟨rfl, hr, hb⟩; obtain ⟨k0, kc0, kc1, kc2, kc3, kc4, kf0, kf1, kf2, kf3, kf4⟩ := (HI.out.keep (drewB _)).but hb HHG.out) | (refine step_int w6 rfl (.tmp 68) (.tmp 71) rfl w5.heap.size _ L _ (by rfl) (HOwd.out.but hb HGB.out) (by rfl) (by omega) (Nat.le_trans hsz hb.size) ?_; intro p7 c7 w7 ho7 hb7; have HI7 := Lib.hid (((HI.out.keep (drewB _)).but hb HHG.out).kept hb7 HIB.out); obtain ⟨j0, jc0, jc1, jc2, jc3, jc4, jf0, jf1, jf2, jf3, jf4⟩ := HI7.out))
        all_goals (
          rw [show (L ++ [(ru l b 0).1]).length = k + 1 from by simp [hlen]] at ho7
          clear kc0 kc1 kc2 kc3 kc4 kf0 kf1 kf2 kf3 kf4 ic0 ic1 ic2 ic3 ic4 if0 if1 if2 if3 if4 jc0 jc1 jc2 jc3 jc4 jf0 jf1 jf2 jf3 jf4 rc0 rc1 rc2 rf0 rf1 rf2
          have HR7 := Lib.hid (((HRd.out.turn hr hb (ru_le HRd.out.at_le)).kept hb7 HGB.out H0B.out).far (p := ⟨w1.heap.size, 4, none⟩) HHG.out HW0.out (.slice (some ⟨p7, 0, none⟩) (k + 1) c7))
          have HI8 := Lib.hid (HI7.out.setL (.slice (some ⟨p7, 0, none⟩) (k + 1) c7))
          have HO7 := Lib.hid ((((HO.out.keep (drewB _)).but hb HG.out).kept hb7 HOB.out).far (p := ⟨w1.heap.size, 4, none⟩) HHO.out (.slice (some ⟨p7, 0, none⟩) (k + 1) c7))
          have HB7 := Lib.hid ((((HB.out.trans (But.of_below (drewB _))).trans hb).kept hb7 (Nat.le_of_lt HOB.out)).setHigh (p := ⟨w1.heap.size, 4, none⟩) HWW.out (.slice (some ⟨p7, 0, none⟩) (k + 1) c7))
          have HOw7 := Lib.hid (ho7.far (p := ⟨w1.heap.size, 4, none⟩) HIB.out (.slice (some ⟨p7, 0, none⟩) (k + 1) c7))
          have hsz7 : w5.heap.size ≤ (w7.setCell ⟨w1.heap.size, 4, none⟩ (.slice (some ⟨p7, 0, none⟩) (k + 1) c7)).heap.size := Nat.le_trans (Nat.le_trans hsz (Nat.le_trans hb.size hb7.size)) (by simp [World.setCell])
          clear hr hb hb7 ho7 HI7
          go_wp2_with fail
          go_roundw
          case rel => exact ⟨k + 1, L ++ [(ru l b 0).1], _, _, _, by go_num, hlt, (lb_one hlt).trans HL.out, by simp [hlen], fun _ => hN, HR7.out, HI8.out, HOw7.out, HO7.out, HB7.out, hsz7⟩
          case measure => simp [intOf]; omega)
      · have c1 : decide ((k : Int) < (N : Int)) = true := by simpa using hlt
        have c2 : (d == 0) = false := by simpa using hd
        have hx : lb l (N - k) L b d = (L, b, d) := lb_err hd
        clear hd
        obtain ⟨rfl, rfl, rfl⟩ : L = LL ∧ b = bb ∧ d = dd := by simpa using hx.symm.trans (HL.out.trans HRq.out)
        clear hx
        go_wp2_with fail
        refine (u_any HR.out).mono ?_
        rintro en w6 ⟨rfl, hr, hb⟩
        have HR := Lib.hid (HR.out.turn hr hb (ru_le HR.out.at_le))
        have HI := Lib.hid (HI.out.but hb HHG.out)
        have HO := Lib.hid (HO.out.but hb HG.out)
        have HB := Lib.hid (HB.out.trans hb)
        have HOw := Lib.hid (HOw.out.but hb HGB.out)
        clear hr hb rc0 rc1 rc2 rf0 rf1 rf2
        obtain ⟨i0, ic0, ic1, ic2, ic3, ic4, if0, if1, if2, if3, if4⟩ := HI.out
        obtain ⟨o0, oc0, oc1, oc2, oc3, oc4, of0, of1, of2, of3, of4⟩ := HO.out
        have hn1 : w1.heap.size ≠ w.heap.size := HHO.out
        have hn2 : w.heap.size ≠ w1.heap.size := fun e => HHO.out e.symm
        go_wp2_with fail
        have HR := Lib.hid (HR.out.far (p := ⟨w1.heap.size, 1, none⟩) HHG.out HW0.out (.int .i64 (ru l b d).1))
        have HOw := Lib.hid (HOw.out.far (p := ⟨w1.heap.size, 1, none⟩) HIB.out (.int .i64 (ru l b d).1))
        have HB := Lib.hid (HB.out.setHigh (p := ⟨w1.heap.size, 1, none⟩) HWW.out (.int .i64 (ru l b d).1))
        refine bodyPost_ret (v := .agg #[.int .i64 op, .int .i64 (ru l b d).1, .int .i64 0, .int .u64 0, .slice P k c]) (by simp [results, Tryd.results25, go_sem, oc0, oc1, oc2, oc3, oc4]) rfl ⟨_, rfl, ?_, ?_, ?_⟩
        · exact ((((((HOw.out.far (p := ⟨w.heap.size, 0, none⟩) HOB.out _).far (p := ⟨w.heap.size, 1, none⟩) HOB.out _).far (p := ⟨w.heap.size, 2, none⟩) HOB.out _).far (p := ⟨w.heap.size, 3, none⟩) HOB.out _).far (p := ⟨w.heap.size, 4, none⟩) HOB.out _).mono (Nat.le_of_lt HOB.out))
        · exact (((((HR.out.rd.far (p := ⟨w.heap.size, 0, none⟩) HG.out _).far (p := ⟨w.heap.size, 1, none⟩) HG.out _).far (p := ⟨w.heap.size, 2, none⟩) HG.out _).far (p := ⟨w.heap.size, 3, none⟩) HG.out _).far (p := ⟨w.heap.size, 4, none⟩) HG.out _)
        · exact (((((HB.out.setHigh (p := ⟨w.heap.size, 0, none⟩) (Nat.le_refl _) _).setHigh (p := ⟨w.heap.size, 1, none⟩) (Nat.le_refl _) _).setHigh (p := ⟨w.heap.size, 2, none⟩) (Nat.le_refl _) _).setHigh (p := ⟨w.heap.size, 3, none⟩) (Nat.le_refl _) _).setHigh (p := ⟨w.heap.size, 4, none⟩) (Nat.le_refl _) _)
    · have c1 : decide ((k : Int) < (N : Int)) = false := by simpa using hlt
      have hx : lb l (N - k) L b d = (L, b, d) := by rw [show N - k = 0 from by omega]; rfl
      obtain ⟨rfl, rfl, rfl⟩ : L = LL ∧ b = bb ∧ d = dd := by simpa using hx.symm.trans (HL.out.trans HRq.out)
      clear hx
      go_wp2_with fail
      refine (u_any HR.out).mono ?_
      rintro en w6 ⟨rfl, hr, hb⟩
      have HR := Lib.hid (HR.out.turn hr hb (ru_le HR.out.at_le))
      have HI := Lib.hid (HI.out.but hb HHG.out)
      have HO := Lib.hid (HO.out.but hb HG.out)
      have HB := Lib.hid (HB.out.trans hb)
      have HOw := Lib.hid (HOw.out.but hb HGB.out)
      clear hr hb rc0 rc1 rc2 rf0 rf1 rf2
      obtain ⟨i0, ic0, ic1, ic2, ic3, ic4, if0, if1, if2, if3, if4⟩ := HI.out
      obtain ⟨o0, oc0, oc1, oc2, oc3, oc4, of0, of1, of2, of3, of4⟩ := HO.out
      have hn1 : w1.heap.size ≠ w.heap.size := HHO.out
      have hn2 : w.heap.size ≠ w1.heap.size := fun e => HHO.out e.symm
      go_wp2_with fail
      have HR := Lib.hid (HR.out.far (p := ⟨w1.heap.size, 1, none⟩) HHG.out HW0.out (.int .i64 (ru l b d).1))
      have HOw := Lib.hid (HOw.out.far (p := ⟨w1.heap.size, 1, none⟩) HIB.out (.int .i64 (ru l b d).1))
      have HB := Lib.hid (HB.out.setHigh (p := ⟨w1.heap.size, 1, none⟩) HWW.out (.int .i64 (ru l b d).1))
      refine bodyPost_ret (v := .agg #[.int .i64 op, .int .i64 (ru l b d).1, .int .i64 0, .int .u64 0, .slice P k c]) (by simp [results, Tryd.results25, go_sem, oc0, oc1, oc2, oc3, oc4]) rfl ⟨_, rfl, ?_, ?_, ?_⟩
      · exact ((((((HOw.out.far (p := ⟨w.heap.size, 0, none⟩) HOB.out _).far (p := ⟨w.heap.size, 1, none⟩) HOB.out _).far (p := ⟨w.heap.size, 2, none⟩) HOB.out _).far (p := ⟨w.heap.size, 3, none⟩) HOB.out _).far (p := ⟨w.heap.size, 4, none⟩) HOB.out _).mono (Nat.le_of_lt HOB.out))
      · exact (((((HR.out.rd.far (p := ⟨w.heap.size, 0, none⟩) HG.out _).far (p := ⟨w.heap.size, 1, none⟩) HG.out _).far (p := ⟨w.heap.size, 2, none⟩) HG.out _).far (p := ⟨w.heap.size, 3, none⟩) HG.out _).far (p := ⟨w.heap.size, 4, none⟩) HG.out _)
      · exact (((((HB.out.setHigh (p := ⟨w.heap.size, 0, none⟩) (Nat.le_refl _) _).setHigh (p := ⟨w.heap.size, 1, none⟩) (Nat.le_refl _) _).setHigh (p := ⟨w.heap.size, 2, none⟩) (Nat.le_refl _) _).setHigh (p := ⟨w.heap.size, 3, none⟩) (Nat.le_refl _) _).setHigh (p := ⟨w.heap.size, 4, none⟩) (Nat.le_refl _) _)
end Go.Proofs.YtmjimijolfjhmaaDoor.Ins
