/- ModWD, ModWA5, ModWLFuncType. -/
import Derived.Test.YtffegkjlgeblbaaGreatDoorPkModWR
import Derived.Test.YtffegkjlgeblbaaGreatDoorPkModWLPair
import Derived.Test.YtffegkjlgeblbaaGreatDoorPkModPF
import Derived.Test.YtffegkjlgeblbaaGreatDoorPkModWLImport
import Derived.Test.YtffegkjlgeblbaaGreatDoorPkModWA4
import Derived.Test.YtffegkjlgeblbaaGreatDoorPkModLd
import Derived.Test.YtffegkjlgeblbaaGreatDoorPkModEq
import Derived.Test.YtffegkjlgeblbaaGreatDoorPkUtfCame
import Derived.Test.YtffegkjlgeblbaaGreatDoorPkTypPutL
import Derived.Test.YtffegkjlgeblbaaGreatDoorPkTypSame
import Derived.Test.YtffegkjlgeblbaaGreatDoorBodPutP
import Derived.Test.YtffegkjlgeblbaaGreatDoorPkModWLI
section
/- The program's writer: locals, codes, the start: walked. -/
namespace Go.Proofs.YtffegkjlgeblbaaGreatDoor.Mdl
open Go.RowKit Ints Typ Ins
set_option maxRecDepth 100000
set_option maxHeartbeats 4000000
set_option linter.unusedVariables false
theorem runs_byte {l : List Int} (h : ∀ x ∈ l, 0 ≤ x ∧ x < 256) : ∀ r ∈ runs l, 0 ≤ r.2 ∧ r.2 < 256 := fun r hr => by
  have h1 := (rinv l).pos r hr
  refine h _ ?_
  have h2 := (rinv l).ex
  rw [← h2]
  unfold exR
  refine List.mem_flatMap.2 ⟨r, hr, List.mem_replicate.2 ⟨by omega, rfl⟩⟩
def okLoc (l : List Int) : Bool := decide ((l.length : Int) ≤ 64) && (decide (((runs l).length : Int) ≤ 64) && (runs l).all okRun)
theorem runs_len (l : List Int) : (runs l).length ≤ l.length := by
  have h2 := (rinv l).ex
  have key : ∀ q : List (Int × Int), (∀ p ∈ q, 1 ≤ p.1) → q.length ≤ (exR q).length := by
    intro q
    induction q with
    | nil => intro _; exact Nat.le_refl _
    | cons p q ih =>
      intro h
      have h3 := ih fun r hr => h r (List.mem_cons_of_mem _ hr)
      have h4 := h p (List.mem_cons_self ..)
      rw [show exR (p :: q) = List.replicate p.1.toNat p.2 ++ exR q from by unfold exR; rw [List.flatMap_cons], List.length_append, List.length_replicate, List.length_cons]
      omega
  have := key _ (rinv l).pos
  rw [h2] at this
  exact this
theorem wlocals {w : World} {g : Nat} {b : List Int} {bad : Bool} {v : Value} {l : List Int} (hl : Sl w v l) (hby : ∀ x ∈ l, 0 ≤ x ∧ x < 256) (hlen : l.length ≤ 10000) (hv : ∀ W, WFr g w W → Sl W v l) (h : WS w g b bad) :
    Calls Tryz.prog 206 #[.pointer (some ⟨g, 0, none⟩), v] w (WTold g b bad (okLoc l) (locB l) w) := by
  obtain ⟨A, c, rfl, _⟩ := id hl
  obtain ⟨n, hn⟩ : ∃ n, l.length = n := ⟨_, rfl⟩
  have HN := Lib.hid hn
  unfold okLoc
  rw [hn] at hl hv hlen ⊢
  obtain ⟨ok, hok⟩ : ∃ r, decide ((n : Int) ≤ 64) = r := ⟨_, rfl⟩
  rw [hok]
  have HWN := Lib.hid (wneed ok h)
  have HD := Lib.hid (h.set1 (bad || !ok))
  have HP := Lib.hid (Puts.need bad ok h.le)
  obtain ⟨W1, hW1⟩ : ∃ W, w.setCell ⟨g, 1, none⟩ (.bool (bad || !ok)) = W := ⟨_, rfl⟩
  have HFR : Hid (WFr g w W1) := Lib.hid (by rw [← hW1]; exact (WFr.refl g w).setCell _ _)
  rw [hW1] at HD HWN
  have HSL := Lib.hid (hv W1 HFR.out)
  obtain ⟨bad1, hbad1⟩ : ∃ r, (bad || !ok) = r := ⟨_, rfl⟩
  rw [hbad1] at HD HP
  have HRU := Lib.hid (pruns_any HN.out HSL.out hby (by omega))
  have HRB := Lib.hid (runs_byte hby)
  have HRL : Hid ((runs l).length ≤ 100000) := Lib.hid (by have := runs_len l; omega)
  obtain ⟨⟨Pb, cb, h1, _⟩, _⟩ := id HD.out
  have d1 := (Sec.cells_at h1 1).1
  have hmf : ∀ (fn : Fn) (first cap : Array Value) (w : World), (Instr.makeFunc fn first cap).run Tryz.prog w = .ok (.func fn first cap) w := fun _ _ _ _ => rfl
  clear hW1 h hl hv hn hby h1 hbad1
  cases bad1 with
  | true =>
    go_enter Tryz.func206, Tryz.ntmps206
    go_wp2_with fail
    refine HWN.out.mono ?_
    rintro en w1 ⟨rfl, hw1⟩
    obtain rfl : W1 = w1 := hw1.symm
    go_wp2_with fail
    exact bodyPost_ret (v := .tuple #[]) (by simp [results, Tryz.results206, go_sem]) rfl ⟨b, true, rfl, HD.out, Puts.stop (o2 := _) (x2 := locB l) HP.out, HFR.out⟩
  | false =>
    go_enter Tryz.func206, Tryz.ntmps206
    go_wp2_with fail
    refine HWN.out.mono ?_
    rintro en w1 ⟨rfl, hw1⟩
    obtain rfl : W1 = w1 := hw1.symm
    go_wp2_with fail
    refine HRU.out.mono ?_
    rintro en w2 ⟨⟨u, rfl, hu⟩, hb2⟩
    obtain ⟨Pu, cu, rfl⟩ := hu.form
    have HU := Lib.hid hu
    have HS2 := Lib.hid (HD.out.keep hb2)
    have HF2 := Lib.hid (HFR.out.trans (WFr.of_below hb2 HD.out.lt))
    have HROW : Hid (∀ W, WFr g w2 W → RowG.Row elP W (.slice Pu (runs l).length cu) (runs l)) := Lib.hid fun W hf => by
      refine RowG.Own.row (B := W1.heap.size) ?_ (fun p _ => trivial)
      obtain ⟨q1, q2⟩ := HU.out
      refine ⟨q1, ?_⟩
      rcases q2 with q2 | ⟨g', cap, cur, hv', hB, hc, hr⟩
      · exact .inl q2
      · refine .inr ⟨g', cap, cur, hv', hB, ?_, hr⟩
        have hlt := HD.out.lt
        rw [hf.high g' (by omega) (Array.getElem?_eq_some_iff.1 hc).1 (by unfold tyOf; rw [hc]; intro e; exact absurd (Option.some.inj e) (by decide))]
        exact hc
    obtain ⟨nr, hnr⟩ : ∃ n, (runs l).length = n := ⟨_, rfl⟩
    have HNR := Lib.hid hnr
    have HLC : Hid (locB l = Leb.uB nr ++ (runs l).flatMap runB) := Lib.hid (by unfold locB; rw [hnr])
    have HPL := Lib.hid (wlist_Pair (fun r => okU r.1 && isV r.2) (fun r => Leb.uB r.1.toNat ++ [r.2]) 64 229 HS2.out HROW.out HRL.out (fun args W => Stab.run_enter Tryz.func229 (by kernel_rfl) rfl args W) (fun W b' bad' p hp hs => wrun p.1 p.2 (by have := HRB.out p hp; rw [IntKind.wrap_u8]; omega) hs))
    rw [hnr] at HPL ⊢
    clear hu hb2 hnr
    go_wp2_with fail
    refine HPL.out.mono ?_
    rintro en w3 hq
    have HE : Hid (WTold g b bad (ok && (decide (((runs l).length : Int) ≤ 64) && (runs l).all okRun)) (locB l) w en w3) := Lib.hid (by
      rw [HLC.out, HNR.out]
      have hq2 : WTold g b false (decide ((nr : Int) ≤ 64) && (runs l).all okRun) (Leb.uB nr ++ (runs l).flatMap runB) w2 en w3 := hq
      have hq3 := WTold.next HP.out HF2.out hq2
      rw [List.nil_append] at hq3
      exact hq3)
    obtain ⟨b', bad', rfl, _, _, _⟩ := hq
    go_wp2_with fail
    exact bodyPost_end (v := .tuple #[]) (by simp [results, Tryz.results206, go_sem]) rfl HE.out
theorem low_sl {w w1 W : World} {g : Nat} {v : Value} {l : List Int} (h : Sl w v l) (hb : Below w.heap.size w w1) (hg : w.heap.size ≤ g) (hf : WFr g w1 W) : Sl W v l := h.keep (hb.trans (hf.below.mono hg))
theorem wcode {w0 w : World} {g : Nat} {b : List Int} {bad : Bool} {v u : Value} {l : List Int} {L : List (Ins × Value)} (hT : KTab w0) (hl : Sl w0 v l) (hby : ∀ x ∈ l, 0 ≤ x ∧ x < 256) (hlen : l.length ≤ 10000) (hL : InRow w0 u L) (hb : Below w0.heap.size w0 w) (hg : w0.heap.size ≤ g) (h : WS w g b bad) :
    Calls Tryz.prog 161 #[.pointer (some ⟨g, 0, none⟩), .agg #[v, u]] w (WTold g b bad (okC (l, Bod.insL L)) (codB (l, Bod.insL L)) w) := by
  obtain ⟨A0, k0, rfl, hj0⟩ := id hl
  obtain ⟨⟨A1, k1, rfl, hj1⟩, hj2⟩ := id hL
  clear hj0 hj1 hj2
  obtain ⟨n0, hn0⟩ : ∃ n, l.length = n := ⟨_, rfl⟩
  obtain ⟨n1, hn1⟩ : ∃ n, L.length = n := ⟨_, rfl⟩
  have HN1 := Lib.hid hn1
  have hL' := hL
  rw [hn0] at hl ⊢
  rw [hn1] at hL ⊢
  have HA := Lib.hid ((Below.refl w.heap.size w).alloc (Nat.le_refl _) (.cells #[.slice A0 n0 k0, .slice A1 n1 k1] 90))
  have HC : Hid ((w.alloc (.cells #[.slice A0 n0 k0, .slice A1 n1 k1] 90)).heap[w.heap.size]? = some (.cells #[.slice A0 n0 k0, .slice A1 n1 k1] 90 (0, 0))) := Lib.hid (Sec.heap_new w _)
  obtain ⟨W0, hW0⟩ : ∃ W, w.alloc (.cells #[.slice A0 n0 k0, .slice A1 n1 k1] 90) = W := ⟨_, rfl⟩
  have HW0 := Lib.hid hW0
  have HZ0 : Hid (W0.heap.size = w.heap.size + 1) := Lib.hid (by rw [← hW0]; simp)
  rw [hW0] at HA HC
  have HNEW := Lib.hid (ws_new W0)
  have HA1 := Lib.hid ((Below.refl W0.heap.size W0).alloc (Nat.le_refl _) (.cells #[.slice none 0 0, .bool false] 148))
  obtain ⟨W1, hW1⟩ : ∃ W, W0.alloc (.cells #[.slice none 0 0, .bool false] 148) = W := ⟨_, rfl⟩
  have HW1 := Lib.hid hW1
  have HC1 : Hid (W1.heap[w.heap.size]? = some (.cells #[.slice A0 n0 k0, .slice A1 n1 k1] 90 (0, 0))) := Lib.hid (by rw [← hW1]; exact bx_keep HC.out HA1.out)
  rw [hW1] at HA1 HNEW
  obtain ⟨gi, hgi⟩ : ∃ k, W0.heap.size = k := ⟨_, rfl⟩
  rw [hgi] at HNEW HA1
  have HGI : Hid (gi = w.heap.size + 1) := Lib.hid (by rw [← hgi]; exact HZ0.out)
  have HGG := Lib.hid hgi
  have HB1 : Hid (Below w.heap.size w W1) := Lib.hid (HA.out.trans (HA1.out.mono (by have := HGI.out; omega)))
  have HB01 : Hid (Below w0.heap.size w0 W1) := Lib.hid (hb.trans (HB1.out.mono hb.size))
  have HLO := Lib.hid (wlocals (hl.keep HB01.out) hby hlen (fun W hf => low_sl hl HB01.out (by have := hb.size; have := HGI.out; omega) hf) HNEW.out)
  have HH := Lib.hid h
  have HG : Hid (w.heap.size ≠ g) := Lib.hid (by have := h.lt; omega)
  have HGL : Hid (g < w.heap.size) := Lib.hid h.lt
  have HT := Lib.hid hT
  have HLR := Lib.hid hL
  have HBS : Hid (w0.heap.size ≤ w.heap.size) := Lib.hid hb.size
  have c0 := (Sec.cells_at HC1.out 0).1
  obtain ⟨PC, hPC⟩ : ∃ p : PCod, (l, Bod.insL L) = p := ⟨_, rfl⟩
  have HPC := Lib.hid hPC
  rw [hPC]
  clear h hb hg hT hl hby hlen hL hL' hn0 hn1 hW0 hW1 hgi hPC
  -- the writer inside, behind both of its puts
  have fin : ∀ w3 b3 bad3, WS w3 gi b3 bad3 → WFr gi W1 w3 → Puts [] false b3 bad3 (okLoc l && okB (Bod.insL L)) (locB l ++ bdB (Bod.insL L)) → (bad3 = false → okC PC = true ∧ b3 = inB PC) ∧ (bad3 = true → okC PC = false) := by
    intro w3 b3 bad3 h3 _ hp
    have e : okC PC = (okIn PC && okU ((inB PC).length : Int)) := rfl
    have e2 : okIn PC = (okLoc l && okB (Bod.insL L) && decide ((inB PC).length ≤ 65536)) := by rw [← HPC.out]; rfl
    have e3 : inB PC = locB l ++ bdB (Bod.insL L) := by rw [← HPC.out]; rfl
    have hz : (([] : List Int).length + (locB l ++ bdB (Bod.insL L)).length) = (locB l ++ bdB (Bod.insL L)).length := by simp
    constructor
    · intro hb
      obtain ⟨_, g2, g3⟩ := hp.iff.1 hb
      rw [hz] at g3
      have g4 := hp.eq hb
      rw [List.nil_append] at g4
      refine ⟨?_, by rw [g4, e3]⟩
      rw [e, e2, e3, g2, decide_eq_true g3]
      unfold okU
      rw [decide_eq_true (by omega)]
      rfl
    · intro hb
      rw [e, e2, e3]
      by_cases g2 : (okLoc l && okB (Bod.insL L)) = true
      · by_cases g3 : (locB l ++ bdB (Bod.insL L)).length ≤ 65536
        · have := hp.iff.2 ⟨rfl, g2, by rw [hz]; exact g3⟩
          rw [hb] at this
          cases this
        · rw [decide_eq_false g3, Bool.and_false, Bool.false_and]
      · rw [Bool.not_eq_true] at g2
        rw [g2]
        rfl
  have FIN := Lib.hid fin
  clear fin
  -- body.Put, as the writer inside takes it
  have hput : ∀ w2 b2 bad2, WS w2 gi b2 bad2 → WFr gi W1 w2 → ∃ E : Int, Calls Tryz.prog 207 #[.slice none 0 0, .slice A1 n1 k1] w2 fun en w3 => ∃ P n c, en = .returned (.tuple #[.slice P n c, .int .i64 E]) ∧ Below w2.heap.size w2 w3 ∧ Calls Tryz.prog 189 #[.pointer (some ⟨gi, 0, none⟩), .slice P n c, .int .i64 E] w3 (WTold gi b2 bad2 (okB (Bod.insL L)) (bdB (Bod.insL L)) w3) := by
    intro w2 b2 bad2 h2 hf
    have hbw : Below w0.heap.size w0 w2 := HB01.out.trans (hf.below.mono (by have := HBS.out; have := HGI.out; omega))
    have hT2 := HT.out.keep hbw
    have hL2 := HLR.out.keep hbw
    by_cases hS : Bod.SaneB L
    · refine ⟨0, ?_⟩
      have hok : okB (Bod.insL L) = true := okB_iff.2 ((wv_sane L).2 hS)
      have hbd : ([] : List Int) ++ Bod.ibs L ++ [11] = bdB (Bod.insL L) := by unfold bdB; rw [wv_ibs]; rfl
      have hc := Bod.bputP_yes (b := []) (A0 := none) (c0 := 0) hT2 HN1.out hL2 hS (Sl.nil _) (by simp)
      rw [hbd] at hc
      refine hc.mono ?_
      rintro en w3 ⟨z, rfl, hs, hb3⟩
      obtain ⟨P, c, rfl, _⟩ := id hs
      refine ⟨P, _, c, rfl, hb3, ?_⟩
      have hlen : (bdB (Bod.insL L)).length ≤ 100000000 := by
        have h1 := Bod.ibs_len (l := L) (fun p hp => (HLR.out.2 p hp).2) (fun p hp => by obtain ⟨q, hq⟩ := List.getElem?_of_mem hp; exact (hS.2.2 q p hq).1)
        have h2 := hS.2.1
        rw [← hbd, List.nil_append, List.length_append, List.length_singleton]
        omega
      have := wputL 0 (h2.keep hb3) hs hlen
      rw [hok]
      exact this
    · refine ⟨1, ?_⟩
      have hok : okB (Bod.insL L) = false := by cases hq : okB (Bod.insL L) with | false => rfl | true => exact absurd ((wv_sane L).1 (okB_iff.1 hq)) hS
      have hc := Bod.bputP_no (A0 := none) (c0 := 0) (m := 0) hT2 HN1.out hL2 hS
      refine hc.mono ?_
      rintro en w3 ⟨z, rfl, hs, hb3⟩
      obtain ⟨P, c, rfl, _⟩ := id hs
      refine ⟨P, _, c, rfl, hb3, ?_⟩
      rw [hok]
      exact (wput 1 (h2.keep hb3) hs (by simp)).mono fun en w' hq => WTold.bad hq
  have HPUT := Lib.hid hput
  clear hput
  go_enter Tryz.func161, Tryz.ntmps161
  go_wp2_with fail
  rw [HW0.out, HW1.out]
  rw [← HGI.out]
  refine HLO.out.mono ?_
  rintro en w2 ⟨b2, bad2, rfl, hs2, hp2, hf2⟩
  have HP2 := Lib.hid hp2
  have HF2 := Lib.hid hf2
  have HS2 := Lib.hid hs2
  have HC2 : Hid (w2.heap[w.heap.size]? = some (.cells #[.slice A0 n0 k0, .slice A1 n1 k1] 90 (0, 0))) := Lib.hid (hf2.block HC1.out (by have := HGI.out; omega) (by decide))
  clear c0 hp2 hf2 hs2
  have c1 := (Sec.cells_at HC2.out 1).1
  obtain ⟨E, hq2⟩ := HPUT.out w2 b2 bad2 HS2.out HF2.out
  have HQ2 := Lib.hid hq2
  clear hq2
  go_wp2_with fail
  refine HQ2.out.mono ?_
  rintro en w3 ⟨P3, m3, c3, rfl, hb3, hput3⟩
  have HPT := Lib.hid hput3
  have HB3 := Lib.hid hb3
  clear hb3 hput3 c1
  go_wp2_with fail
  refine HPT.out.mono ?_
  rintro en w4 ⟨b4, bad4, rfl, hs4, hp4, hf4⟩
  have HS4 := Lib.hid hs4
  have HF4 : Hid (WFr gi W1 w4) := Lib.hid ((HF2.out.trans (WFr.of_below HB3.out HS2.out.lt)).trans hf4)
  have HP4 := Lib.hid (HP2.out.trans hp4)
  have HFN := Lib.hid (FIN.out w4 b4 bad4 hs4 HF4.out HP4.out)
  have HBW4 : Hid (Below w.heap.size w w4) := Lib.hid (HB1.out.trans (HF4.out.below.mono (by have := HGI.out; omega)))
  have HO4 := Lib.hid (HH.out.keep HBW4.out)
  have HLE4 := Lib.hid hs4.le
  clear hs4 hp4 hf4
  obtain ⟨⟨P4, c4, h1, h2⟩, _⟩ := id HS4.out
  have HB4 := Lib.hid h1
  have HR4 := Lib.hid h2
  have d0 := (Sec.cells_at h1 0).1
  have d1 := (Sec.cells_at h1 1).1
  clear h1 h2
  obtain ⟨n4, hn4⟩ : ∃ n, b4.length = n := ⟨_, rfl⟩
  have HN4 := Lib.hid hn4
  rw [hn4] at d0 HB4 HR4 HLE4
  clear hn4
  have HWN := Lib.hid (wneed (!bad4) HO4.out)
  have HD5 := Lib.hid (HO4.out.set1 (bad || !(!bad4)))
  have HP5 := Lib.hid (Puts.need bad (!bad4) HO4.out.le)
  obtain ⟨W5, hW5⟩ : ∃ W, w4.setCell ⟨g, 1, none⟩ (.bool (bad || !(!bad4))) = W := ⟨_, rfl⟩
  have HF5 : Hid (WFr g w4 W5) := Lib.hid (by rw [← hW5]; exact (WFr.refl g w4).setCell _ _)
  have HGN : Hid (gi ≠ g) := Lib.hid (by have := HGI.out; have := HGL.out; omega)
  have HB5 : Hid (W5.heap[gi]? = some (.cells #[.slice P4 n4 c4, .bool bad4] 148 (0, 0))) := Lib.hid (HF5.out.block HB4.out HGN.out (by decide))
  have HSZ5 : Hid (W5.heap.size = w4.heap.size) := Lib.hid (by rw [← hW5]; simp [World.setCell])
  have HSJ : Hid (∀ j, j ≠ g → W5.heap[j]? = w4.heap[j]?) := Lib.hid (by rw [← hW5]; exact fun j hj => Below.heap_setCell _ _ _ _ (by simp only; omega))
  rw [hW5] at HD5 HWN
  have HNM := Lib.hid (wnumF n4 (by have := HLE4.out; omega) HD5.out)
  have e0 := (Sec.cells_at HB5.out 0).1
  have HW5 := Lib.hid hW5
  clear hW5
  go_wp2_with fail
  refine HWN.out.mono ?_
  rintro en w5 ⟨rfl, hw5⟩
  obtain rfl : W5 = w5 := hw5.symm
  clear d0 d1
  go_wp2_with fail
  refine HNM.out.mono ?_
  rintro en w6 ⟨⟨b6, bad6, rfl, hs6, hp6, hf6⟩, hsf⟩
  have HS6 := Lib.hid hs6
  have HP6 := Lib.hid (HP5.out.trans hp6)
  have HF6 := Lib.hid (((WFr.of_below HBW4.out HGL.out).trans HF5.out).trans hf6)
  have HB6 : Hid (w6.heap[gi]? = some (.cells #[.slice P4 n4 c4, .bool bad4] 148 (0, 0))) := Lib.hid (hf6.block HB5.out HGN.out (by decide))
  have HSL6 : Hid (Sl w6 (.slice P4 n4 c4) b4) := Lib.hid (by
    refine OwnB.sl (B := gi + 1) ?_
    obtain ⟨q1, q2⟩ := HR4.out
    refine ⟨q1, ?_⟩
    rcases q2 with q2 | ⟨g', cap, cur, hv', hB, hc, hr⟩
    · exact .inl q2
    · refine .inr ⟨g', cap, cur, hv', hB, ?_, hr⟩
      have hlt := (Array.getElem?_eq_some_iff.1 hc).1
      have hne : g' ≠ g := by have := HGN.out; have := HGI.out; have := HGL.out; omega
      rw [hsf g' (by rw [HSZ5.out]; exact hlt) hne ?_, HSJ.out g' hne]
      · exact hc
      · intro e
        obtain ⟨⟨Po, co, ho1, ho2⟩, _⟩ := HH.out
        have hq2 : w4.heap[g]? = some (.cells #[.slice Po b.length co, .bool bad] 148 (0, 0)) := by rw [HBW4.out.block g HGL.out]; exact ho1
        have hPq : wOwn W5 g = (Value.slice Po b.length co).ownBlock := by
          have hx : ∀ d, wOwn (w4.setCell ⟨g, 1, none⟩ d) g = (Value.slice Po b.length co).ownBlock := fun d => by rw [wOwn_set hq2, wOwn_at hq2]
          have hy : W5 = w4.setCell ⟨g, 1, none⟩ (.bool (bad || !(!bad4))) := HW5.out.symm
          rw [hy]
          exact hx _
        rw [hPq] at e
        obtain ⟨_, ⟨hvo, _⟩ | ⟨go, _, _, hvo, _, hco, _⟩⟩ := ho2
        · rw [hvo] at e; cases e
        · rw [hvo] at e
          obtain rfl : g' = go := by simpa [Value.ownBlock] using e
          have := (Array.getElem?_eq_some_iff.1 hco).1
          have := HGI.out
          omega)
  clear hs6 hp6 hf6 hsf e0
  have f0 := (Sec.cells_at HB6.out 0).1
  go_wp2_with fail
  refine (wput 0 HS6.out HSL6.out (by rw [HN4.out]; have := HLE4.out; omega)).mono ?_
  rintro en w7 hq
  have hE := WTold.next HP6.out HF6.out hq
  have HE : Hid (WTold g b bad (okC PC) (codB PC) w en w7) := Lib.hid (by
    cases hbd : bad4 with
    | false =>
      obtain ⟨k1', k2'⟩ := HFN.out.1 hbd
      rw [k1']
      have hcb : codB PC = [] ++ Leb.uB n4 ++ b4 := by
        unfold codB numB
        rw [← k2', HN4.out, Int.toNat_natCast]
        rfl
      rw [hcb]
      rw [hbd] at hE
      exact hE
    | true =>
      rw [HFN.out.2 hbd]
      rw [hbd] at hE
      exact WTold.bad hE)
  obtain ⟨b', bad', rfl, _, _, _⟩ := hq
  clear hE
  go_wp2_with fail
  exact bodyPost_end (v := .tuple #[]) (by simp [results, Tryz.results161, go_sem]) rfl HE.out
theorem wstart {w : World} {g : Nat} {b : List Int} {bad : Bool} (v : Int) (hv : v ≠ -1) (h : WS w g b bad) :
    Calls Tryz.prog 157 #[.pointer (some ⟨g, 0, none⟩), .int .i64 v] w (WTold g b bad (okU v) (Leb.uB v.toNat) w) := by
  have HN := Lib.hid (wnumA v h)
  have t1 : (v != -1) = true := by simpa using hv
  clear h hv
  go_enter Tryz.func157, Tryz.ntmps157
  go_wp2_with fail
  refine HN.out.mono ?_
  rintro en w3 hq
  have HE := Lib.hid hq
  obtain ⟨b', bad', rfl, _, _, _⟩ := hq
  go_wp2_with fail
  exact bodyPost_end (v := .tuple #[]) (by simp [results, Tryz.results157, go_sem]) rfl HE.out
end Go.Proofs.YtffegkjlgeblbaaGreatDoor.Mdl
end

section
/- The program's writer: names, types of values, flags, kinds, tables, functions' types. -/
namespace Go.Proofs.YtffegkjlgeblbaaGreatDoor.Mdl
open Go.RowKit Ints Typ Ins
set_option maxRecDepth 100000
set_option maxHeartbeats 4000000
set_option linter.unusedVariables false
theorem wfun {w : World} {g : Nat} {b : List Int} {bad : Bool} {x y : Value} {p r : List Int} (hx : Sl w x p) (hy : Sl w y r) (hp : p.length ≤ 1000) (hr : r.length ≤ 1000) (h : WS w g b bad) :
    Calls Tryz.prog 145 #[.pointer (some ⟨g, 0, none⟩), .agg #[x, y]] w (WTold g b bad (sane p r) (fnB p r) w) := by
  have HA := Lib.hid ((Below.refl w.heap.size w).alloc (Nat.le_refl _) (.cells #[x, y] 95))
  have H := Lib.hid h
  have HC := Lib.hid (putFunc_any (.slice none 0 0) x y [] p r _ (Sl.nil _) (hx.keep HA.out) (hy.keep HA.out) (by simp) (by omega) (by omega))
  have HL : Hid (sane p r = true → (fnB p r).length ≤ 1000000) := Lib.hid fun ho => by
    have h1 := Leb.lenU_ten (v := p.length) (by omega)
    have h2 := Leb.lenU_ten (v := r.length) (by omega)
    unfold fnB
    simp [Leb.uB_len]
    omega
  obtain ⟨A1, c1, rfl, _⟩ := id hx
  obtain ⟨A2, c2, rfl, _⟩ := id hy
  obtain ⟨n1, hn1⟩ : ∃ n, p.length = n := ⟨_, rfl⟩
  obtain ⟨n2, hn2⟩ : ∃ n, r.length = n := ⟨_, rfl⟩
  rw [hn1, hn2] at HC HA ⊢
  clear h hx hy hp hr hn1 hn2
  unfold PfIs at HC
  cases ho : sane p r with
  | true =>
    have hL := HL.out ho
    rw [ho] at HC
    simp only [cond_true, List.nil_append] at HC
    have HLL := Lib.hid hL
    clear ho hL
    go_enter Tryz.func145, Tryz.ntmps145
    go_wp2_with fail
    refine HC.out.mono ?_
    rintro en w1 ⟨u, rfl, hs, hb⟩
    obtain ⟨Pu, cu, rfl, _⟩ := id hs
    have HS := Lib.hid hs
    have HB := Lib.hid (HA.out.trans (hb.mono HA.out.size))
    obtain ⟨nu, hnu⟩ : ∃ k, (fnB p r).length = k := ⟨_, rfl⟩
    rw [hnu] at HS ⊢
    clear hs hb hnu
    go_wp2_with fail
    refine (wput 0 (H.out.keep HB.out) HS.out HLL.out).mono ?_
    rintro en w3 ⟨b', bad', rfl, e2, e3, e4⟩
    have HE := Lib.hid (show WTold g b bad true (fnB p r) w (.returned (.tuple #[])) w3 from ⟨b', bad', rfl, e2, e3, (WFr.of_below HB.out H.out.lt).trans e4⟩)
    clear e2 e3 e4
    go_wp2_with fail
    exact bodyPost_end (v := .tuple #[]) (by simp [results, Tryz.results145, go_sem]) rfl HE.out
  | false =>
    rw [ho] at HC
    simp only [cond_false] at HC
    clear ho
    go_enter Tryz.func145, Tryz.ntmps145
    go_wp2_with fail
    refine HC.out.mono ?_
    rintro en w1 ⟨rfl, hb⟩
    have HB := Lib.hid (HA.out.trans (hb.mono HA.out.size))
    clear hb
    go_wp2_with fail
    refine (wput 1 (H.out.keep HB.out) (Sl.nil w1) (by simp)).mono ?_
    rintro en w3 hq
    have HE := Lib.hid (WTold.low (WFr.of_below HB.out H.out.lt) (WTold.bad (x := fnB p r) hq))
    obtain ⟨b', bad', rfl, _, _, _⟩ := hq
    go_wp2_with fail
    exact bodyPost_end (v := .tuple #[]) (by simp [results, Tryz.results145, go_sem]) rfl HE.out
end Go.Proofs.YtffegkjlgeblbaaGreatDoor.Mdl
end

section
/- The program's lists of FuncType, laid: walked. -/
namespace Go.Proofs.YtffegkjlgeblbaaGreatDoor.Mdl
open Go.RowKit Ints Typ Ins
set_option maxRecDepth 100000
set_option maxHeartbeats 4000000
set_option linter.unusedVariables false
theorem wlist_FuncType (okf : FunT → Bool) (xf : FunT → List Int) (m : Int) (K : Nat) {w0 w : World} {v : Value} {L : List FunT} {g : Nat} {b : List Int} {bad : Bool} (hw : WS w g b bad) (hr : RowG.Row elF w0 v L) (hb : Below w0.heap.size w0 w) (hg : w0.heap.size ≤ g) (hL : L.length ≤ 100000)
    (hrun : ∀ args W, (callFunc K args).run Tryz.prog W = .ok (.enter K args) W)
    (hone : ∀ W b' bad' p, p ∈ L → WS W g b' bad' → Below w0.heap.size w0 W → Calls Tryz.prog K #[.pointer (some ⟨g, 0, none⟩), (fun p : FunT => .agg #[p.1.2, p.2.2]) p] W (WTold g b' bad' (okf p) (xf p) W)) :
    Calls Tryz.prog 188 #[.pointer (some ⟨g, 0, none⟩), v, .int .i64 m, .func (.func K) #[.pointer (some ⟨g, 0, none⟩)] #[]] w (WTold g b bad (decide ((L.length : Int) ≤ m) && L.all okf) (Leb.uB L.length ++ L.flatMap xf) w) := by
  obtain ⟨P, c, rfl⟩ := row_len hr
  obtain ⟨n, hn⟩ : ∃ n, L.length = n := ⟨_, rfl⟩
  have HN := Lib.hid hn
  rw [hn] at hr hL ⊢
  have HR := Lib.hid hr
  have HBW := Lib.hid hb
  have HG := Lib.hid hg
  have HONE := Lib.hid hone
  obtain ⟨hd, hhd⟩ : ∃ r, decide ((n : Int) ≤ m) = r := ⟨_, rfl⟩
  have HWN := Lib.hid (wneed hd hw)
  have HD := Lib.hid (hw.set1 (bad || !hd))
  obtain ⟨W1, hW1⟩ : ∃ W, w.setCell ⟨g, 1, none⟩ (.bool (bad || !hd)) = W := ⟨_, rfl⟩
  have HFR : Hid (WFr g w W1) := Lib.hid (by rw [← hW1]; exact (WFr.refl g w).setCell _ _)
  rw [hW1] at HD HWN
  rw [hhd]
  obtain ⟨TO, hTO⟩ : ∃ r, (hd && L.all okf) = r := ⟨_, rfl⟩
  obtain ⟨TX, hTX⟩ : ∃ r, Leb.uB n ++ L.flatMap xf = r := ⟨_, rfl⟩
  have HTO := Lib.hid hTO
  have HTX := Lib.hid hTX
  rw [hTO, hTX]
  clear hW1 hw hr hb hg hone hn hTO hTX
  go_enter Tryz.func188, Tryz.ntmps188
  go_wp2_with fail
  refine HWN.out.mono ?_
  rintro en w1 ⟨rfl, hw1⟩
  obtain rfl : W1 = w1 := hw1.symm
  go_wp2_with fail
  refine (wnum (n : Int) (by omega) HD.out).mono ?_
  rintro en w2 ⟨b2, bad2, rfl, hs2, hp2, hf2⟩
  have HS2 := Lib.hid hs2
  have HP2 : Hid (Puts b bad b2 bad2 hd (Leb.uB n)) := Lib.hid (Puts.after (by rw [okU_nat hL, Int.toNat_natCast] at hp2; exact hp2))
  have HF2 := Lib.hid (HFR.out.trans hf2)
  clear hs2 hp2 hf2 hhd
  go_wp2_with fail
  go_loopw [22] (fun i' wr => ∃ (i : Nat) (b' : List Int) (bad' : Bool), i' = .int .i64 (i : Int) ∧ i ≤ n ∧ WS wr g b' bad' ∧ Puts b bad b' bad' (hd && (L.take i).all okf) (Leb.uB n ++ (L.take i).flatMap xf) ∧ WFr g w wr) (fun i' _ => n - (intOf i').toNat)
  case atStart => exact ⟨0, b2, bad2, by go_num, by omega, HS2.out, by simpa using HP2.out, HF2.out⟩
  case round =>
    obtain ⟨i, b', bad', rfl, hi, hs, hp, hf⟩ := hrel
    have HS := Lib.hid hs
    have HP := Lib.hid hp
    have HF := Lib.hid hf
    clear hs hp hf HS2 HP2 HF2
    by_cases hlt : i < n
    · obtain ⟨p, hp⟩ : ∃ p, L[i]? = some p := ⟨_, List.getElem?_eq_getElem (by rw [HN.out]; exact hlt)⟩
      have HBR : Hid (Below w0.heap.size w0 wr) := Lib.hid (HBW.out.trans (HF.out.below.mono HG.out))
      obtain ⟨g1, off, rfl, hg1, hA, hok⟩ := (HR.out.keep HBR.out).at_ hp
      rw [show (elF.s) = 2 from rfl] at hA
      have q0 := hA 0 p.1.2 rfl
      have q1 := hA 1 p.2.2 rfl
      rw [Nat.add_zero] at q0
      have HPM := Lib.hid (List.mem_of_getElem? hp)
      have HAN := Lib.hid (all_next okf hp)
      have HFN := Lib.hid (flat_next xf hp)
      have i1 : (0 : Int) ≤ (i : Int) := by omega
      have i2 : (i : Int) < (n : Int) := by omega
      have hw1 : IntKind.i64.wrap ((i : Int) + 1) = (i : Int) + 1 := IntWalk.i64_in _ (by omega)
      clear hA hp hg1
      obtain ⟨⟨x0, c0⟩, ⟨x1, c1⟩⟩ := p
      obtain ⟨⟨⟨A0, k0, e0, _⟩, _⟩, ⟨⟨A1, k1, e1, _⟩, _⟩⟩ := hok
      simp only at e0 e1
      subst e0 e1
      obtain ⟨W2, hW2⟩ : ∃ W, wr.alloc (.cells #[.slice A0 x0.length k0, .slice A1 x1.length k1] 95) = W := ⟨_, rfl⟩
      have HA2 : Hid (Below wr.heap.size wr W2) := Lib.hid (by rw [← hW2]; exact (Below.refl _ _).alloc (Nat.le_refl _) _)
      have HS2 : Hid (WS W2 g b' bad') := Lib.hid (HS.out.keep HA2.out)
      have HF2 : Hid (WFr g w W2) := Lib.hid (HF.out.trans (WFr.of_below HA2.out HS.out.lt))
      have HO2 := Lib.hid (HONE.out W2 b' bad' _ HPM.out HS2.out (HBR.out.trans (HA2.out.mono HBR.out.size)))
      rw [← hW2] at HS2 HF2 HO2
      obtain ⟨⟨Pb, cb, h1, _⟩, _⟩ := id HS.out
      have d1 := Lib.cell?_alloc_some (.cells #[.slice A0 x0.length k0, .slice A1 x1.length k1] 95) (Sec.cells_at h1 1).1
      clear h1 hW2
      cases bad' with
      | true =>
        have HE : Hid (WTold g b bad TO TX w (.returned (.tuple #[])) (wr.alloc (.cells #[.slice A0 x0.length k0, .slice A1 x1.length k1] 95))) := Lib.hid ⟨b', true, rfl, HS2.out, by
          rw [← HTO.out, ← HTX.out, all_cut okf L i, flat_cut xf L i, ← Bool.and_assoc, ← List.append_assoc]
          exact Puts.stop HP.out, HF2.out⟩
        go_wp2_with fail
        exact bodyPost_ret (P := Tryz.prog) (fn := Tryz.f188) (v := .tuple #[]) (by simp [results, Tryz.results188, go_sem]) rfl HE.out
      | false =>
        go_wp2_with fail
        refine HO2.out.mono ?_
        rintro en w3 ⟨b3, bad3, rfl, hs3, hp3, hf3⟩
        have HS3 := Lib.hid hs3
        have HP3 : Hid (Puts b bad b3 bad3 (hd && (L.take (i + 1)).all okf) (Leb.uB n ++ (L.take (i + 1)).flatMap xf)) := Lib.hid (by
          rw [HAN.out, HFN.out, ← Bool.and_assoc, ← List.append_assoc]
          exact HP.out.trans hp3)
        have HF3 := Lib.hid (HF2.out.trans hf3)
        clear hs3 hp3 hf3
        go_wp2_with fail
        go_roundw
        case rel => exact ⟨i + 1, b3, bad3, by go_num, hlt, HS3.out, HP3.out, HF3.out⟩
        case measure => simp [intOf]; omega
    · have hin : i = n := by omega
      subst hin
      have HE : Hid (WTold g b bad TO TX w (.returned (.tuple #[])) wr) := Lib.hid ⟨b', bad', rfl, HS.out, by
        have := HP.out
        rw [List.take_of_length_le (by rw [HN.out]; exact Nat.le_refl _)] at this
        rw [← HTO.out, ← HTX.out]
        exact this, HF.out⟩
      go_wp2_with fail
      exact bodyPost_end (v := .tuple #[]) (by simp [results, Tryz.results188, go_sem]) rfl HE.out
theorem wsome_FuncType (okf : FunT → Bool) (xf : FunT → List Int) (m : Int) (K : Nat) {w0 w : World} {v : Value} {L : List FunT} {g : Nat} {b : List Int} {bad : Bool} (hw : WS w g b bad) (hr : RowG.Row elF w0 v L) (hb : Below w0.heap.size w0 w) (hg : w0.heap.size ≤ g) (hL : L.length ≤ 100000) (h0 : 0 < L.length)
    (hrun : ∀ args W, (callFunc K args).run Tryz.prog W = .ok (.enter K args) W)
    (hone : ∀ W b' bad' p, p ∈ L → WS W g b' bad' → Below w0.heap.size w0 W → Calls Tryz.prog K #[.pointer (some ⟨g, 0, none⟩), (fun p : FunT => .agg #[p.1.2, p.2.2]) p] W (WTold g b' bad' (okf p) (xf p) W)) :
    Calls Tryz.prog 144 #[.pointer (some ⟨g, 0, none⟩), v, .int .i64 m, .func (.func K) #[.pointer (some ⟨g, 0, none⟩)] #[]] w (WTold g b bad (decide ((L.length : Int) ≤ m) && L.all okf) (Leb.uB L.length ++ L.flatMap xf) w) := by
  have HC := Lib.hid (wlist_FuncType okf xf m K hw hr hb hg hL hrun hone)
  obtain ⟨P, c, rfl⟩ := row_len hr
  obtain ⟨TO, hTO⟩ : ∃ r, (decide ((L.length : Int) ≤ m) && L.all okf) = r := ⟨_, rfl⟩
  obtain ⟨TX, hTX⟩ : ∃ r, Leb.uB L.length ++ L.flatMap xf = r := ⟨_, rfl⟩
  rw [hTO, hTX] at HC ⊢
  clear hTO hTX
  obtain ⟨n, hn⟩ : ∃ n, L.length = n := ⟨_, rfl⟩
  rw [hn] at HC h0 ⊢
  have t1 : decide ((0 : Int) < (n : Int)) = true := decide_eq_true (by omega)
  have t2 : decide (0 < n) = true := decide_eq_true h0
  clear hw hr hb hg hL hone hn h0
  go_enter Tryz.func144, Tryz.ntmps144
  go_wp2_with fail
  refine HC.out.mono ?_
  rintro en w3 ⟨b3, bad3, rfl, hs3, hp3, hf3⟩
  have HE : Hid (WTold g b bad TO TX w (.returned (.tuple #[])) w3) := Lib.hid ⟨b3, bad3, rfl, hs3, hp3, hf3⟩
  clear hs3 hp3 hf3
  go_wp2_with fail
  exact bodyPost_end (v := .tuple #[]) (by simp [results, Tryz.results144, go_sem]) rfl HE.out
end Go.Proofs.YtffegkjlgeblbaaGreatDoor.Mdl
end
