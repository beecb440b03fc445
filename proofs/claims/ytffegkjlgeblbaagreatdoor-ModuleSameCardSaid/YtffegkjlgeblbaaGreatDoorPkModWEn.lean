/- ModBy, ModWLay, ModWEn. -/
import Derived.Test.YtffegkjlgeblbaaGreatDoorPkModBk3
import Derived.Test.YtffegkjlgeblbaaGreatDoorPkModWLImport
section
/- What the writer lays are bytes: plain. -/
namespace Go.Proofs.YtffegkjlgeblbaaGreatDoor.Mdl
open Go.RowKit Ints Typ Ins
set_option maxRecDepth 100000
set_option maxHeartbeats 1000000
set_option linter.unusedVariables false
def Bys (l : List Int) : Prop := ∀ x ∈ l, 0 ≤ x ∧ x < 256
theorem Bys.app {a b : List Int} (h : Bys a) (k : Bys b) : Bys (a ++ b) := fun x hx => by
  rcases List.mem_append.1 hx with hx | hx
  · exact h x hx
  · exact k x hx
theorem Bys.uB (n : Nat) : Bys (Leb.uB n) := fun x hx => by have := Leb.uB_byte n x hx; omega
theorem Bys.num (v : Int) : Bys (numB v) := Bys.uB _
theorem Bys.one {c : Int} (h : 0 ≤ c) (k : c < 256) : Bys [c] := fun x hx => by rw [List.mem_singleton.1 hx]; exact ⟨h, k⟩
theorem Bys.cons {c : Int} {l : List Int} (h : 0 ≤ c) (k : c < 256) (hl : Bys l) : Bys (c :: l) := (Bys.one h k).app hl
theorem Bys.flat {α : Type} {L : List α} {f : α → List Int} (h : ∀ p ∈ L, Bys (f p)) : Bys (L.flatMap f) := fun x hx => by
  obtain ⟨p, hp, hx⟩ := List.mem_flatMap.1 hx
  exact h p hp x hx
theorem isV_in {v : Int} (h : isV v = true) : v = 127 ∨ v = 126 := of_decide_eq_true h
theorem Bys.val {v : Int} (h : isV v = true) : Bys [v] := by
  rcases isV_in h with rfl | rfl
  · exact Bys.one (by omega) (by omega)
  · exact Bys.one (by omega) (by omega)
theorem Bys.fl (m : Bool) : Bys (flB m) := by
  cases m
  · exact Bys.one (by omega) (by omega)
  · exact Bys.one (by omega) (by omega)
theorem Bys.lim (x y : Int) (z : Bool) : Bys (limB x y z) := by
  unfold limB
  cases z
  · exact (Bys.one (by omega) (by omega)).app (Bys.uB _)
  · exact ((Bys.one (by omega) (by omega)).app (Bys.uB _)).app (Bys.uB _)
theorem Bys.nm (s : ByteArray) : Bys (nmB s) := (Bys.uB _).app (Utf.bl_byte s)
theorem Bys.ft {p : List Int × List Int} (h : okT p = true) : Bys (ftB p) := by
  obtain ⟨h1, h2, h3, h4⟩ := sane_parts h
  have hv : ∀ {l : List Int}, allV l = true → Bys l := fun {l} h x hx => by
    have : isV x = true := List.all_eq_true.1 h x hx
    rcases isV_in this with rfl | rfl <;> omega
  exact fnB_byte h1 h2 (hv h3) (hv h4)
theorem Bys.ex {x : Ins} (hu : u64R x.K) (h : okX x = true) : Bys (ib x ++ [11]) := by
  unfold okX at h
  rw [Bool.and_eq_true] at h
  exact Bys.app (ib_facts hu h.2).2.2.1 (Bys.one (by omega) (by omega))
theorem Bys.bd {L : List Ins} (hu : ∀ x ∈ L, u64R x.K) (h : okB L = true) : Bys (bdB L) := by
  have hS := okB_iff.1 h
  unfold bdB
  refine Bys.app (Bys.flat fun p hp => ?_) (Bys.one (by omega) (by omega))
  obtain ⟨q, hq⟩ := List.getElem?_of_mem hp
  obtain ⟨x, hx, rfl⟩ := List.mem_map.1 hp
  exact (ib_facts (hu x hx) (hS.2.2 q _ hq).1).2.2.1
theorem Bys.im {p : ImpT} (h : okI p = true) : Bys (impB p) := by
  unfold okI at h
  rw [Bool.and_eq_true] at h
  unfold impB
  refine Bys.app ((Bys.app (Bys.nm _) (Bys.nm _)).app (Bys.num _)) ?_
  have h2 := h.2
  unfold okTl at h2
  unfold impTl
  split
  · exact Bys.num _
  · rename_i e0
    rw [if_neg e0] at h2
    split
    · exact Bys.cons (by omega) (by omega) (Bys.lim _ _ _)
    · rename_i e1
      rw [if_neg e1] at h2
      split
      · exact Bys.lim _ _ _
      · rename_i e2
        rw [if_neg e2] at h2
        split
        · rename_i e3
          rw [if_pos e3] at h2
          exact (Bys.val h2).app (Bys.fl _)
        · intro x hx; cases hx
theorem Bys.cd {p : PCod} (hu : ∀ x ∈ p.2, u64R x.K) (h : okC p = true) : Bys (codB p) := by
  unfold okC okIn at h
  simp only [Bool.and_eq_true] at h
  unfold codB inB locB
  refine (Bys.num _).app (((Bys.uB _).app (Bys.flat fun r hr => ?_)).app (Bys.bd hu h.1.1.2))
  have := List.all_eq_true.1 h.1.1.1.2.2 r hr
  unfold okRun at this
  rw [Bool.and_eq_true] at this
  exact (Bys.num _).app (Bys.val this.2)
theorem Bys.some_ {α : Type} {L : List α} {m : Int} {f : α → List Int} {okf : α → Bool} (hk : okL8 L m okf = true) (h : ∀ p ∈ L, okf p = true → Bys (f p)) : Bys (someB L f) := by
  unfold someB
  split
  · intro x hx; cases hx
  · unfold okL8 at hk
    rw [Bool.and_eq_true] at hk
    exact (Bys.uB _).app (Bys.flat fun p hp => h p hp (List.all_eq_true.1 hk.2 p hp))
theorem secF_by {m : PMod} (hf : FitP m) (hd : ∀ p ∈ m.datas, Bys p.2) (k : Nat) (h : secO m k = true) : Bys (secF m k) := by
  match k with
  | 0 => intro x hx; cases hx
  | 1 => exact Bys.some_ (okf := okT) h fun p _ hp => Bys.ft hp
  | 2 => exact Bys.some_ (okf := okI) h fun p _ hp => Bys.im hp
  | 3 => exact Bys.some_ (okf := okU) h fun p _ _ => Bys.num _
  | 4 => exact Bys.some_ (okf := okLm) h fun p _ _ => Bys.cons (by omega) (by omega) (Bys.lim _ _ _)
  | 5 => exact Bys.some_ (okf := okLm) h fun p _ _ => Bys.lim _ _ _
  | 6 =>
    exact Bys.some_ (okf := okG) h fun p hq hp => by
      unfold okG at hp
      rw [Bool.and_eq_true] at hp
      exact ((Bys.val hp.1).app (Bys.fl _)).app (Bys.ex (hf.globs p hq) hp.2)
  | 7 => exact Bys.some_ (okf := okE) h fun p _ _ => ((Bys.nm _).app (Bys.num _)).app (Bys.num _)
  | 8 =>
    show Bys (if m.start = -1 then [] else numB m.start)
    split
    · intro x hx; cases hx
    · exact Bys.num _
  | 9 =>
    exact Bys.some_ (okf := okM) h fun p hq hp => by
      unfold okM at hp
      rw [Bool.and_eq_true] at hp
      exact ((Bys.num _).app (Bys.ex (hf.elems p hq) hp.1)).app ((Bys.uB _).app (Bys.flat fun v _ => Bys.num v))
  | 10 => exact Bys.some_ (okf := okC) h fun p hq hp => Bys.cd (hf.codes p hq) hp
  | 11 =>
    exact Bys.some_ (okf := okD) h fun p hq hp => by
      unfold okD at hp
      rw [Bool.and_eq_true] at hp
      exact (((Bys.num _).app (Bys.ex (hf.datas p hq) hp.1)).app (Bys.num _)).app (hd p hq)
  | k + 12 => intro x hx; cases hx
end Go.Proofs.YtffegkjlgeblbaaGreatDoor.Mdl
end

section
/- A module laid by the program: the walk, given its sections. -/
namespace Go.Proofs.YtffegkjlgeblbaaGreatDoor.Mdl
open Go.RowKit Ints Typ Ins
set_option maxRecDepth 100000
set_option maxHeartbeats 4000000
set_option linter.unusedVariables false
theorem laid_any {w : World} (v0 v1 v3 v4 v5 v6 v7 v8 v10 : Value) {A2 A9 : Option Addr} {nf c2 nc c9 : Nat} (ok : Nat → Bool) (f : Nat → List Int) (hby : ∀ k : Nat, ok k = true → ∀ x ∈ f k, 0 ≤ x ∧ x < 256)
    (hsec : ∀ k : Nat, k < 11 → ∀ W g, Below w.heap.size w W → w.heap.size ≤ g → WS W g [] false → Calls Tryz.prog 93 #[.pointer (some ⟨g, 0, none⟩), .agg #[v0, v1, .slice A2 nf c2, v3, v4, v5, v6, v7, v8, .slice A9 nc c9, v10], .int .i64 ((k : Int) + 1)] W (WTold g [] false (ok (k + 1)) (f (k + 1)) W)) :
    Calls Tryz.prog 44 #[.agg #[v0, v1, .slice A2 nf c2, v3, v4, v5, v6, v7, v8, .slice A9 nc c9, v10]] w
      (LaidTold (decide (nc = nf) && (okS ok f 11 && decide ((Sec.join7 (secL f 11)).2 = 0))) (Sec.join7 (secL f 11)).1 w) := by
  have HBY := Lib.hid hby
  have HSEC := Lib.hid hsec
  have HB0 := Lib.hid ((Below.refl w.heap.size w).alloc (Nat.le_refl _) (.cells #[v0, v1, .slice A2 nf c2, v3, v4, v5, v6, v7, v8, .slice A9 nc c9, v10] 34))
  have HBX := Lib.hid (Sec.heap_new w (.cells #[v0, v1, .slice A2 nf c2, v3, v4, v5, v6, v7, v8, .slice A9 nc c9, v10] 34))
  obtain ⟨W0, hW0⟩ : ∃ W, w.alloc (.cells #[v0, v1, .slice A2 nf c2, v3, v4, v5, v6, v7, v8, .slice A9 nc c9, v10] 34) = W := ⟨_, rfl⟩
  have HS0 : Hid (W0.heap.size = w.heap.size + 1) := Lib.hid (by rw [← hW0]; simp)
  obtain ⟨TP, hTP⟩ : ∃ r, (decide (nc = nf) && (okS ok f 11 && decide ((Sec.join7 (secL f 11)).2 = 0))) = r := ⟨_, rfl⟩
  obtain ⟨TB, hTB⟩ : ∃ r, (Sec.join7 (secL f 11)).1 = r := ⟨_, rfl⟩
  have HTP := Lib.hid hTP
  have HTB := Lib.hid hTB
  rw [hTP, hTB]
  rw [hW0] at HB0 HBX
  have HW0 := Lib.hid hW0
  clear hby hsec hTP hTB hW0
  by_cases hne : nc = nf
  · subst hne
    have t1 : decide (((nc : Nat) : Int) ≠ (nc : Int)) = false := by simp
    go_enter Tryz.func44, Tryz.ntmps44
    go_wp2_with fail
    rw [HW0.out]
    go_loopw [4, 5] (fun u i' wr => ∃ (i : Nat) (L : List (Sec.Sct × Value)), i' = .int .i64 ((i : Int) + 1) ∧ i ≤ 11 ∧ okS ok f i = true ∧ Sec.scL L = secL f i ∧ RowG.Own elS wr (w.heap.size + 1) u L ∧ (∀ p ∈ L, Hi (w.heap.size + 1) elS.e wr (fun W => Sec.ScOk W p)) ∧ Below (w.heap.size + 1) W0 wr) (fun _ i' _ => 12 - (intOf i').toNat)
    case atStart => exact ⟨0, [], by go_num, by omega, rfl, rfl, RowG.own_nil _ _ _, fun p hp => (by cases hp), Below.refl _ _⟩
    case round =>
      obtain ⟨i, L, rfl, hi, hk, hL, hO, hH, hB⟩ := hrel
      have HK := Lib.hid hk
      have HL := Lib.hid hL
      have HO := Lib.hid hO
      have HH := Lib.hid hH
      have HB := Lib.hid hB
      clear hk hL hO hH hB
      by_cases hlt : i < 11
      · have t2 : decide ((i : Int) + 1 ≤ 11) = true := decide_eq_true (by omega)
        have i1 : ((i : Int) + 1) ≤ 11 := by omega
        have hw1 : IntKind.i64.wrap ((i : Int) + 1 + 1) = (i : Int) + 1 + 1 := IntWalk.i64_in _ (by omega)
        have HR : Hid (w.heap.size < wr.heap.size) := Lib.hid (by have := HB.out.size; rw [HS0.out] at this; omega)
        have HBXR : Hid (wr.heap[w.heap.size]? = some (.cells #[v0, v1, .slice A2 nc c2, v3, v4, v5, v6, v7, v8, .slice A9 nc c9, v10] 34 (0, 0))) := Lib.hid (by rw [HB.out.block _ (by omega)]; exact HBX.out)
        have HBR : Hid (Below w.heap.size w wr) := Lib.hid (HB0.out.trans (HB.out.mono (by omega)))
        have HA := Lib.hid ((Below.refl wr.heap.size wr).alloc (Nat.le_refl _) (.cells #[.slice none 0 0, .bool false] 148))
        have HBA : Hid (Below w.heap.size w (wr.alloc (.cells #[.slice none 0 0, .bool false] 148))) := Lib.hid (HBR.out.trans (HA.out.mono HBR.out.size))
        have HSC := Lib.hid (HSEC.out i hlt _ _ HBA.out HBR.out.size (ws_new wr))
        have a0 : (wr.alloc (.cells #[.slice none 0 0, .bool false] 148)).cell? ⟨w.heap.size, 0, none⟩ = some (v0) := Lib.cell?_alloc_some (.cells #[.slice none 0 0, .bool false] 148) (Sec.cells_at HBXR.out 0).1
        have a1 : (wr.alloc (.cells #[.slice none 0 0, .bool false] 148)).cell? ⟨w.heap.size, 1, none⟩ = some (v1) := Lib.cell?_alloc_some (.cells #[.slice none 0 0, .bool false] 148) (Sec.cells_at HBXR.out 1).1
        have a2 : (wr.alloc (.cells #[.slice none 0 0, .bool false] 148)).cell? ⟨w.heap.size, 2, none⟩ = some (.slice A2 nc c2) := Lib.cell?_alloc_some (.cells #[.slice none 0 0, .bool false] 148) (Sec.cells_at HBXR.out 2).1
        have a3 : (wr.alloc (.cells #[.slice none 0 0, .bool false] 148)).cell? ⟨w.heap.size, 3, none⟩ = some (v3) := Lib.cell?_alloc_some (.cells #[.slice none 0 0, .bool false] 148) (Sec.cells_at HBXR.out 3).1
        have a4 : (wr.alloc (.cells #[.slice none 0 0, .bool false] 148)).cell? ⟨w.heap.size, 4, none⟩ = some (v4) := Lib.cell?_alloc_some (.cells #[.slice none 0 0, .bool false] 148) (Sec.cells_at HBXR.out 4).1
        have a5 : (wr.alloc (.cells #[.slice none 0 0, .bool false] 148)).cell? ⟨w.heap.size, 5, none⟩ = some (v5) := Lib.cell?_alloc_some (.cells #[.slice none 0 0, .bool false] 148) (Sec.cells_at HBXR.out 5).1
        have a6 : (wr.alloc (.cells #[.slice none 0 0, .bool false] 148)).cell? ⟨w.heap.size, 6, none⟩ = some (v6) := Lib.cell?_alloc_some (.cells #[.slice none 0 0, .bool false] 148) (Sec.cells_at HBXR.out 6).1
        have a7 : (wr.alloc (.cells #[.slice none 0 0, .bool false] 148)).cell? ⟨w.heap.size, 7, none⟩ = some (v7) := Lib.cell?_alloc_some (.cells #[.slice none 0 0, .bool false] 148) (Sec.cells_at HBXR.out 7).1
        have a8 : (wr.alloc (.cells #[.slice none 0 0, .bool false] 148)).cell? ⟨w.heap.size, 8, none⟩ = some (v8) := Lib.cell?_alloc_some (.cells #[.slice none 0 0, .bool false] 148) (Sec.cells_at HBXR.out 8).1
        have a9 : (wr.alloc (.cells #[.slice none 0 0, .bool false] 148)).cell? ⟨w.heap.size, 9, none⟩ = some (.slice A9 nc c9) := Lib.cell?_alloc_some (.cells #[.slice none 0 0, .bool false] 148) (Sec.cells_at HBXR.out 9).1
        have a10 : (wr.alloc (.cells #[.slice none 0 0, .bool false] 148)).cell? ⟨w.heap.size, 10, none⟩ = some (v10) := Lib.cell?_alloc_some (.cells #[.slice none 0 0, .bool false] 148) (Sec.cells_at HBXR.out 10).1
        go_wp2_with fail
        refine HSC.out.mono ?_
        rintro en w3 ⟨b3, bad3, rfl, hs3, hp3, hf3⟩
        have HLT : Hid (wr.heap.size < w3.heap.size) := Lib.hid hs3.lt
        have HB3 : Hid (Below wr.heap.size wr w3) := Lib.hid (HA.out.trans hf3.below)
        have HP3 := Lib.hid hp3
        have HLE := Lib.hid hs3.le
        obtain ⟨⟨P, c, h1, h2⟩, _⟩ := hs3
        have HOB := Lib.hid h2
        have d0 : w3.cell? ⟨wr.heap.size, 0, none⟩ = some (.slice P b3.length c) := (Sec.cells_at h1 0).1
        have d1 : w3.cell? ⟨wr.heap.size, 1, none⟩ = some (.bool bad3) := (Sec.cells_at h1 1).1
        clear h1 h2 hp3 hf3 a0 a1 a2 a3 a4 a5 a6 a7 a8 a9 a10
        cases bad3 with
        | true =>
          have HF : Hid (TP = false) := Lib.hid (by
            rw [← HTP.out, okS_no hlt (k := i) ?_, Bool.false_and, Bool.and_false]
            cases hq : (ok (i + 1) && decide ((f (i + 1)).length ≤ 65536)) with
            | false => rfl
            | true =>
              rw [Bool.and_eq_true] at hq
              have := HP3.out.iff.2 ⟨rfl, hq.1, by have := of_decide_eq_true hq.2; simpa using this⟩
              cases this)
          have HBW : Hid (Below w.heap.size w w3) := Lib.hid (HBR.out.trans (HB3.out.mono HBR.out.size))
          go_wp2_with fail
          exact bodyPost_ret (P := Tryz.prog) (fn := Tryz.f44) (v := .tuple #[.slice none 0 0, .bool false]) (by simp [results, Tryz.results44, go_sem]) rfl ⟨.inr ⟨HF.out, _, rfl⟩, HBW.out⟩
        | false =>
          have HPQ : Hid (ok (i + 1) = true ∧ (f (i + 1)).length ≤ 65536 ∧ b3 = f (i + 1)) := Lib.hid (by
            obtain ⟨_, g2, g3⟩ := HP3.out.iff.1 rfl
            have := HP3.out.eq rfl
            exact ⟨g2, by simpa using g3, by simpa using this⟩)
          have HK4 : Hid (okS ok f (i + 1) = true) := Lib.hid (by
            unfold okS
            rw [HK.out, HPQ.out.1, decide_eq_true HPQ.out.2.1]
            rfl)
          have HBY3 : Hid (∀ x ∈ b3, 0 ≤ x ∧ x < 256) := Lib.hid (by rw [HPQ.out.2.2]; exact HBY.out _ HPQ.out.1)
          have HSL : Hid (Sl w3 (.slice P b3.length c) b3) := Lib.hid (OwnB.sl HOB.out)
          have HB03 : Hid (Below (w.heap.size + 1) W0 w3) := Lib.hid (HB.out.trans (HB3.out.mono (by have := HR.out; omega)))
          obtain ⟨m, hm⟩ : ∃ m, b3.length = m := ⟨_, rfl⟩
          have HM := Lib.hid hm
          rw [hm] at d0 HSL
          clear hm
          by_cases hz : 0 < m
          · have t3 : decide ((m : Int) > 0) = true := decide_eq_true (by omega)
            have t4 : (0 : Int) < (m : Int) := by omega
            have HL4 : Hid (Sec.scL (L ++ [((((i : Int) + 1), b3), .slice P m c)]) = secL f (i + 1)) := Lib.hid (by
              unfold secL
              rw [if_neg (by rw [← HPQ.out.2.2]; intro e; rw [e] at HM; have := HM.out; simp at this; omega), ← HL.out, ← HPQ.out.2.2]
              simp [Sec.scL])
            have HSO : Hid (Sec.ScOk w3 ((((i : Int) + 1), b3), .slice P m c)) := Lib.hid ⟨HSL.out, HBY3.out⟩
            go_wp2_with (at_builtin; refine Sec.stop_ ?_)
            refine Lib.hid ?_
            refine RowG.wp_oneG elS 50 Tryz.underlying50 _ rfl (.tmp 29) (.tmp 34) rfl (w.heap.size + 1) _ L ((((i : Int) + 1), b3), .slice P m c) ?_ rfl ?_ w3.heap.size ?_ ?_ ?_ (by decide) ?_ ?_
            focus (exact HSO.out.keep ((Below.refl _ _).alloc (Nat.le_refl _) _))
            focus (exact RowG.own_keep (RowG.own_keep HO.out HB3.out) ((Below.refl _ _).alloc (Nat.le_refl _) _))
            focus rfl
            focus (exact new_at elS w3 ((((i : Int) + 1), b3), .slice P m c))
            focus (have h1 := secL_len f i; rw [← HL.out, Sec.scL_len] at h1; omega)
            focus (have h1 := HB03.out.size; rw [HS0.out] at h1; simp; omega)
            intro v4 w4 ho4 hb4 hk4
            have HO4 := Lib.hid ho4
            have HAG : Hid (Agr (w.heap.size + 1) elS.e wr w4) := Lib.hid (((Agr.of_below HB3.out).trans (Agr.of_below ((Below.refl w3.heap.size w3).alloc (Nat.le_refl _) _))).trans (Agr.of_row (RowG.own_keep (RowG.own_keep HO.out HB3.out) ((Below.refl _ _).alloc (Nat.le_refl _) _)) hb4.size hk4))
            have HNEW : Hid (Hi (w.heap.size + 1) elS.e w3 (fun W => Sec.ScOk W ((((i : Int) + 1), b3), .slice P m c))) := Lib.hid (by
              have := (hi_ownB (B := w.heap.size + 1) (t := elS.e) HOB.out (by decide) (by have := HR.out; omega)).imp (Q := fun W => Sec.ScOk W ((((i : Int) + 1), b3), .slice P m c)) (fun W h => ⟨by have := OwnB.sl h; rw [HM.out] at this; exact this, HBY3.out⟩)
              exact this)
            have HAG3 : Hid (Agr (w.heap.size + 1) elS.e w3 w4) := Lib.hid ((Agr.of_below ((Below.refl w3.heap.size w3).alloc (Nat.le_refl _) _)).trans (Agr.of_row (RowG.own_keep (RowG.own_keep HO.out HB3.out) ((Below.refl _ _).alloc (Nat.le_refl _) _)) hb4.size hk4))
            have HHA : Hid (∀ p ∈ L ++ [((((i : Int) + 1), b3), .slice P m c)], Hi (w.heap.size + 1) elS.e w4 (fun W => Sec.ScOk W p)) := Lib.hid fun p hp => by
              rcases List.mem_append.1 hp with hp | hp
              · exact (HH.out p hp).step HAG.out
              · rw [List.mem_singleton.1 hp]
                exact HNEW.out.step HAG3.out
            have HB4 : Hid (Below (w.heap.size + 1) W0 w4) := Lib.hid (HB03.out.trans ((((Below.refl (w.heap.size + 1) w3).alloc (by have h1 := HB03.out.size; rw [HS0.out] at h1; exact h1) _)).trans hb4))
            clear ho4 hb4 hk4
            go_wp2_with fail
            go_roundw
            case rel => exact ⟨i + 1, _, by go_num, hlt, HK4.out, HL4.out, HO4.out, HHA.out, HB4.out⟩
            case measure => simp [intOf]; omega
          · have t3 : decide ((m : Int) > 0) = false := decide_eq_false (by omega)
            have HL4 : Hid (Sec.scL L = secL f (i + 1)) := Lib.hid (by
              unfold secL
              rw [if_pos (by rw [← HPQ.out.2.2]; exact List.length_eq_zero_iff.1 (by rw [HM.out]; omega)), List.append_nil]
              exact HL.out)
            have HO4 := Lib.hid (RowG.own_keep HO.out HB3.out)
            have HHA : Hid (∀ p ∈ L, Hi (w.heap.size + 1) elS.e w3 (fun W => Sec.ScOk W p)) := Lib.hid fun p hp => (HH.out p hp).step (Agr.of_below HB3.out)
            go_wp2_with fail
            go_roundw
            case rel => exact ⟨i + 1, L, by go_num, hlt, HK4.out, HL4.out, HO4.out, HHA.out, HB03.out⟩
            case measure => simp [intOf]; omega
      · have hin : i = 11 := by omega
        subst hin
        have t2 : decide (((11 : Nat) : Int) + 1 ≤ 11) = false := by decide
        obtain ⟨PL, cL, rfl⟩ := HO.out.form
        have HRO : Hid (Sec.ScRow wr (.slice PL L.length cL) L) := Lib.hid (sc_row (HO.out.row fun p hp => (HH.out p hp).now))
        obtain ⟨nL, hnL⟩ : ∃ n, L.length = n := ⟨_, rfl⟩
        have HJ := Lib.hid (Sec.pjoin_any (n := nL) hnL (by rw [← hnL]; exact HRO.out) (by have h1 := secL_len f 11; rw [← HL.out, Sec.scL_len] at h1; omega) (fun p hp => by
          have := secL_size HK.out p.1 (by rw [← HL.out]; exact List.mem_map_of_mem hp)
          omega))
        have HBR : Hid (Below w.heap.size w wr) := Lib.hid (HB0.out.trans (HB.out.mono (by omega)))
        rw [HL.out] at HJ
        rw [hnL]
        go_wp2_with fail
        refine HJ.out.mono ?_
        rintro en w5 ⟨⟨g5, n5, c5, rfl, hn5, _, hs5⟩, hb5⟩
        obtain ⟨E, hE⟩ : ∃ E, (Sec.join7 (secL f 11)).2 = E := ⟨_, rfl⟩
        have HP5 : Hid (TP = decide (E = 0)) := Lib.hid (by rw [← HTP.out, HK.out, hE]; simp)
        have HS5 : Hid (Sl w5 (.slice g5 TB.length c5) TB) := Lib.hid (by rw [← HTB.out, ← hn5]; exact hs5)
        have HB5 : Hid (Below w.heap.size w w5) := Lib.hid (HBR.out.trans (hb5.mono HBR.out.size))
        have hn6 : n5 = TB.length := by rw [hn5, HTB.out]
        subst hn6
        rw [hE]
        clear hn5 hs5 hb5 hE
        go_wp2_with fail
        have HE : Hid (LaidTold TP TB w (.returned (.tuple #[.slice g5 TB.length c5, .bool (E == 0)])) w5) := Lib.hid (by
          refine ⟨?_, HB5.out⟩
          rw [HP5.out]
          by_cases h0 : E = 0
          · refine .inl ⟨decide_eq_true h0, g5, c5, by rw [h0]; rfl, HS5.out⟩
          · refine .inr ⟨decide_eq_false h0, .slice g5 TB.length c5, ?_⟩
            rw [show (E == 0) = false from by simpa using h0])
        exact bodyPost_ret (v := .tuple #[.slice g5 TB.length c5, .bool (E == 0)]) (by simp [results, Tryz.results44, go_sem]) rfl HE.out
  · have t1 : decide (((nc : Nat) : Int) ≠ (nf : Int)) = true := by simp; omega
    have HF : Hid (TP = false) := Lib.hid (by rw [← HTP.out, decide_eq_false hne]; rfl)
    go_enter Tryz.func44, Tryz.ntmps44
    go_wp2_with fail
    have HE : Hid (LaidTold TP TB w (.returned (.tuple #[.slice none 0 0, .bool false])) W0) := Lib.hid ⟨.inr ⟨HF.out, _, rfl⟩, HB0.out⟩
    rw [← HW0.out] at HE
    exact bodyPost_ret (v := .tuple #[.slice none 0 0, .bool false]) (by simp [results, Tryz.results44, go_sem]) rfl HE.out
end Go.Proofs.YtffegkjlgeblbaaGreatDoor.Mdl
end

section
/- A module as bytes, by the program: Encode, given what laid tells. -/
namespace Go.Proofs.YtffegkjlgeblbaaGreatDoor.Mdl
open Go.RowKit Ints Typ Ins
set_option maxRecDepth 100000
set_option maxHeartbeats 4000000
set_option linter.unusedVariables false
def EncTold (P : Bool) (bs : List Int) (w : World) (en : Ending) (w' : World) : Prop :=
  (P = true ∧ (∃ g c, en = .returned (.tuple #[.slice g bs.length c, .int .i64 0]) ∧ Sl w' (.slice g bs.length c) bs) ∨ P = false ∧ en = .returned (.tuple #[.slice none 0 0, .int .i64 1])) ∧ Below w.heap.size w w'
theorem encode_any {w : World} {P : Bool} {bs : List Int} (v0 v1 v2 v3 v4 v5 v6 v7 v8 v9 v10 : Value)
    (hl : ∀ W, Below w.heap.size w W → Calls Tryz.prog 44 #[.agg #[v0, v1, v2, v3, v4, v5, v6, v7, v8, v9, v10]] W (LaidTold P bs W)) :
    Calls Tryz.prog 16 #[.agg #[v0, v1, v2, v3, v4, v5, v6, v7, v8, v9, v10]] w (EncTold P bs w) := by
  have HB := Lib.hid ((Below.refl w.heap.size w).alloc (Nat.le_refl _) (.cells #[v0, v1, v2, v3, v4, v5, v6, v7, v8, v9, v10] 34))
  have HL := Lib.hid (hl _ HB.out)
  clear hl
  go_enter Tryz.func16, Tryz.ntmps16
  go_wp2_with fail
  refine HL.out.mono ?_
  rintro en w3 ⟨⟨rfl, g, c, rfl, hs⟩ | ⟨rfl, u, rfl⟩, hb⟩
  · have HE : Hid (EncTold true bs w (.returned (.tuple #[.slice g bs.length c, .int .i64 0])) w3) := Lib.hid ⟨.inl ⟨rfl, g, c, rfl, hs⟩, HB.out.trans (hb.mono HB.out.size)⟩
    clear hs hb
    go_wp2_with fail
    exact bodyPost_ret (v := .tuple #[.slice g bs.length c, .int .i64 0]) (by simp [results, Tryz.results16, go_sem]) rfl HE.out
  · have HE : Hid (EncTold false bs w (.returned (.tuple #[.slice none 0 0, .int .i64 1])) w3) := Lib.hid ⟨.inr ⟨rfl, rfl⟩, HB.out.trans (hb.mono HB.out.size)⟩
    clear hb
    go_wp2_with fail
    exact bodyPost_ret (v := .tuple #[.slice none 0 0, .int .i64 1]) (by simp [results, Tryz.results16, go_sem]) rfl HE.out
end Go.Proofs.YtffegkjlgeblbaaGreatDoor.Mdl
end
