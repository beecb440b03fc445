/- InsPRead, InsTold, InsPTabs. -/
import Derived.Test.YtffegkjlgeblbaaGreatDoorInsPInstr
import Derived.Test.YtffegkjlgeblbaaGreatDoorInsPInstrB
import Derived.Test.YtffegkjlgeblbaaGreatDoorPkInsSame
import Derived.Test.YtffegkjlgeblbaaGreatDoorPkInsPReader
import Derived.Test.YtffegkjlgeblbaaGreatDoorStabAll
import Derived.Test.YtffegkjlgeblbaaGreatDoorRows
import Derived.ProofKit
import Derived.Lay
import Derived.LaidOnce
import Derived.OpenShut
import Derived.ShutString
import Derived.ChangeOld
section
/- The program's reader: an instruction, of whatever kind; and Read: what the document tells. -/
namespace Go.Proofs.YtffegkjlgeblbaaGreatDoor.Ins
open Go.RowKit Ints Typ
set_option maxRecDepth 100000
set_option maxHeartbeats 1000000
set_option linter.unusedVariables false

/-- The program's next instruction; the place behind it; the error. -/
def pin (l : List Int) (a : Nat) (e : Int) : Ins × Nat × Int :=
  let p := rb l a e
  if kd p.1 = 0 then (⟨p.1, 0, 0, 0, []⟩, p.2.1, rf true p.2.2 3)
  else if kd p.1 = 1 then (⟨p.1, 0, 0, 0, []⟩, p.2.1, p.2.2)
  else if kd p.1 = 2 then
    let q := rb l p.2.1 p.2.2
    (⟨p.1, rz q.1, 0, 0, []⟩, q.2.1, rf (q.1 != 64 && (q.1 != 126 && q.1 != 127)) q.2.2 3)
  else if kd p.1 = 3 then
    let q := pu l p.2.1 p.2.2
    (⟨p.1, q.1, 0, 0, []⟩, q.2.1, q.2.2)
  else if kd p.1 = 4 then
    let r := pla l p.2.1 p.2.2
    let s := pu l r.2.1 r.2.2
    (⟨p.1, s.1, 0, 0, r.1⟩, s.2.1, s.2.2)
  else if kd p.1 = 5 then
    let q := pu l p.2.1 p.2.2
    let r := rb l q.2.1 q.2.2
    (⟨p.1, q.1, 0, 0, []⟩, r.2.1, rf (r.1 != 0) r.2.2 3)
  else if kd p.1 = 6 then
    let q := pu l p.2.1 p.2.2
    let r := pu l q.2.1 q.2.2
    (⟨p.1, q.1, r.1, 0, []⟩, r.2.1, r.2.2)
  else if kd p.1 = 7 then
    let r := rb l p.2.1 p.2.2
    (⟨p.1, 0, 0, 0, []⟩, r.2.1, rf (r.1 != 0) r.2.2 3)
  else if kd p.1 = 8 then
    let q := ps 32 l p.2.1 p.2.2
    (⟨p.1, 0, 0, vaT 127 q.1, []⟩, q.2.1, q.2.2)
  else
    let q := ps 64 l p.2.1 p.2.2
    (⟨p.1, 0, 0, vaT 126 q.1, []⟩, q.2.1, q.2.2)
theorem pinstr_any {w0 w : World} {v : Value} {l : List Int} {g a : Nat} {e : Int} (h : Rd w0 v l g w a e) (hT : KTab w0) : Calls Tryz.prog 264 #[.pointer (some ⟨g, 0, none⟩)] w (InsTold v g (pin l a e) w) := by
  have hp := rb_le (e := e) h.at_le
  have hB := fun W (H : Rd w0 v l g W a e) => pnext_any H
  have hr := kd_range (rb l a e).1
  have hop : IntKind.i64.wrap (rb l a e).1 = (rb l a e).1 := by have := rb_range h.by_ a e; exact IntWalk.i64_in _ (by omega)
  have hK : ∀ k : Int, kd (rb l a e).1 = k → ∀ W, Below w0.heap.size w0 W → Calls Tryz.prog 266 #[.int .i64 (rb l a e).1] W fun en w' => en = .returned (.int .i64 k) ∧ Below W.heap.size W w' := fun k hk W hW => by
    have := kind_told (rb l a e).1 W (hT.keep hW)
    unfold KdTold at this
    rwa [hk] at this
  have hk : kd (rb l a e).1 = 0 ∨ kd (rb l a e).1 = 1 ∨ kd (rb l a e).1 = 2 ∨ kd (rb l a e).1 = 3 ∨ kd (rb l a e).1 = 4 ∨ kd (rb l a e).1 = 5 ∨ kd (rb l a e).1 = 6 ∨ kd (rb l a e).1 = 7 ∨ kd (rb l a e).1 = 8 ∨ kd (rb l a e).1 = 9 := by omega
  rcases hk with hk | hk | hk | hk | hk | hk | hk | hk | hk | hk
  · rw [show pin l a e = (⟨(rb l a e).1, 0, 0, 0, []⟩, (rb l a e).2.1, rf true (rb l a e).2.2 3) from by simp [pin, hk]]
    exact pin_bad h _ _ _ _ hp hop hB (hK 0 hk) fun W H => pfail_any 3 H
  · rw [show pin l a e = (⟨(rb l a e).1, 0, 0, 0, []⟩, (rb l a e).2.1, (rb l a e).2.2) from by simp [pin, hk]]
    exact pin_plain h _ _ _ hp hop hB (hK 1 hk)
  · have hri : pin l a e = (let q := rb l (rb l a e).2.1 (rb l a e).2.2; (⟨(rb l a e).1, rz q.1, 0, 0, []⟩, q.2.1, rf (q.1 != 64 && (q.1 != 126 && q.1 != 127)) q.2.2 3)) := by simp [pin, hk]
    rw [hri]
    exact pin_block h _ _ _ _ _ _ hp hop hB (hK 2 hk) (fun W H => presult_any H) (rb_le hp)
  · have hri : pin l a e = (let q := pu l (rb l a e).2.1 (rb l a e).2.2; (⟨(rb l a e).1, q.1, 0, 0, []⟩, q.2.1, q.2.2)) := by simp [pin, hk]
    rw [hri]
    exact pin_index h _ _ _ _ _ _ hp hop hB (hK 3 hk) (fun W H => pu_any H) (pu_le hp)
  · have hri : pin l a e = (let r := pla l (rb l a e).2.1 (rb l a e).2.2; let s := pu l r.2.1 r.2.2; (⟨(rb l a e).1, s.1, 0, 0, r.1⟩, s.2.1, s.2.2)) := by simp [pin, hk]
    rw [hri]
    exact pin_table h _ _ _ _ _ _ _ _ _ hp hop hB (hK 4 hk) (fun W H => plabels_any H) (pla_le hp) (fun W H => pu_any H) (pu_le (pla_le hp))
  · have hri : pin l a e = (let q := pu l (rb l a e).2.1 (rb l a e).2.2; let r := rb l q.2.1 q.2.2; (⟨(rb l a e).1, q.1, 0, 0, []⟩, r.2.1, rf (r.1 != 0) r.2.2 3)) := by simp [pin, hk]
    rw [hri]
    exact pin_calli h _ _ _ _ _ _ _ _ hp hop hB (hK 5 hk) (fun W H => pu_any H) (pu_le hp) (fun W H => pzero_any H) (rb_le (pu_le hp))
  · have hri : pin l a e = (let q := pu l (rb l a e).2.1 (rb l a e).2.2; let r := pu l q.2.1 q.2.2; (⟨(rb l a e).1, q.1, r.1, 0, []⟩, r.2.1, r.2.2)) := by simp [pin, hk]
    rw [hri]
    exact pin_mem h _ _ _ _ _ _ _ _ _ hp hop hB (hK 6 hk) (fun W H => pu_any H) (pu_le hp) (fun W H => pu_any H) (pu_le (pu_le hp))
  · have hri : pin l a e = (let r := rb l (rb l a e).2.1 (rb l a e).2.2; (⟨(rb l a e).1, 0, 0, 0, []⟩, r.2.1, rf (r.1 != 0) r.2.2 3)) := by simp [pin, hk]
    rw [hri]
    exact pin_memop h _ _ _ _ _ hp hop hB (hK 7 hk) (fun W H => pzero_any H) (rb_le hp)
  · have hri : pin l a e = (let q := ps 32 l (rb l a e).2.1 (rb l a e).2.2; (⟨(rb l a e).1, 0, 0, vaT 127 q.1, []⟩, q.2.1, q.2.2)) := by simp [pin, hk]
    rw [hri]
    exact pin_c32 h _ _ _ _ _ _ _ hp hop hB (hK 8 hk) (fun W H => ps_any 32 (.inl rfl) H) (ps_le hp) fun W => value_any 127 _ W
  · have hri : pin l a e = (let q := ps 64 l (rb l a e).2.1 (rb l a e).2.2; (⟨(rb l a e).1, 0, 0, vaT 126 q.1, []⟩, q.2.1, q.2.2)) := by simp [pin, hk]
    rw [hri]
    exact pin_c64 h _ _ _ _ _ _ _ hp hop hB (hK 9 hk) (fun W H => ps_any 64 (.inr rfl) H) (ps_le hp) fun W => value_any 126 _ W
/-! The program's way tells the document's: the same error, and, if there is none, the same. -/
theorem pu_ru (l : List Int) (a : Nat) (e : Int) : (pu l a e).1 = (ru l a e).1 ∧ (pu l a e).2.2 = (ru l a e).2.2 ∧ ((ru l a e).2.2 = 0 → pu l a e = ru l a e) ∧ ((ru l a e).2.2 ≠ 0 → (ru l a e).1 = 0) := by
  unfold pu ru
  split
  · exact ⟨rfl, rfl, fun _ => rfl, fun _ => rfl⟩
  · cases Leb.rdl Leb.fitU 32 (l.drop a) 0 0 with
    | ok n m => exact ⟨rfl, rfl, fun _ => rfl, fun h => absurd rfl h⟩
    | short => exact ⟨rfl, rfl, fun h => by simp at h, fun _ => rfl⟩
    | form => exact ⟨rfl, rfl, fun h => by simp at h, fun _ => rfl⟩
theorem ps_rs (bits : Nat) (l : List Int) (a : Nat) (e : Int) : (ps bits l a e).1 = (rs bits l a e).1 ∧ (ps bits l a e).2.2 = (rs bits l a e).2.2 ∧ ((rs bits l a e).2.2 = 0 → ps bits l a e = rs bits l a e) := by
  unfold ps rs
  split
  · exact ⟨rfl, rfl, fun _ => rfl⟩
  · cases Leb.rdl Leb.fitS bits (l.drop a) 0 0 with
    | ok n m => exact ⟨rfl, rfl, fun _ => rfl⟩
    | short => exact ⟨rfl, rfl, fun h => by simp at h⟩
    | form => exact ⟨rfl, rfl, fun h => by simp at h⟩
theorem pu_e {l : List Int} {a : Nat} {e : Int} (h : e ≠ 0) : pu l a e = (0, a, e) := if_pos h
theorem ru_e {l : List Int} {a : Nat} {e : Int} (h : e ≠ 0) : ru l a e = (0, a, e) := if_pos h
theorem plb_e {l : List Int} : ∀ (n : Nat) (L : List Int) (a : Nat) (e : Int), e ≠ 0 → (plb l n L a e).2.2 = e
  | 0, _, _, _, _ => rfl
  | n + 1, L, a, e, h => by
    show (plb l n (L ++ [(pu l a e).1]) (pu l a e).2.1 (pu l a e).2.2).2.2 = e
    rw [pu_e h]
    exact plb_e n _ _ _ h
theorem plb_lb {l : List Int} : ∀ (n : Nat) (L : List Int) (a : Nat), (plb l n L a 0).2.2 = (lb l n L a 0).2.2 ∧ ((lb l n L a 0).2.2 = 0 → plb l n L a 0 = lb l n L a 0)
  | 0, _, _ => ⟨rfl, fun _ => rfl⟩
  | n + 1, L, a => by
    have e1 : plb l (n + 1) L a 0 = plb l n (L ++ [(pu l a 0).1]) (pu l a 0).2.1 (pu l a 0).2.2 := rfl
    have e2 : lb l (n + 1) L a 0 = lb l n (L ++ [(ru l a 0).1]) (ru l a 0).2.1 (ru l a 0).2.2 := if_pos rfl
    rw [e1, e2]
    obtain ⟨h1, h2, h3, _⟩ := pu_ru l a 0
    by_cases h : (ru l a 0).2.2 = 0
    · rw [h3 h, h]
      exact plb_lb n _ _
    · rw [lb_err h, plb_e n _ _ _ (by rw [h2]; exact h), h2]
      exact ⟨rfl, fun h0 => absurd h0 h⟩
theorem pla_lb (l : List Int) (a : Nat) (e : Int) : (pla l a e).2.2 = (lb l (ru l a e).1.toNat [] (ru l a e).2.1 (rf (decide (64 < (ru l a e).1)) (ru l a e).2.2 4)).2.2 ∧
    ((pla l a e).2.2 = 0 → pla l a e = lb l (ru l a e).1.toNat [] (ru l a e).2.1 (rf (decide (64 < (ru l a e).1)) (ru l a e).2.2 4)) := by
  obtain ⟨h1, h2, h3, h4⟩ := pu_ru l a e
  unfold pla
  by_cases h : (ru l a e).2.2 = 0
  · rw [h3 h, h]
    by_cases h64 : 64 < (ru l a e).1
    · rw [if_pos h64, decide_eq_true h64, show rf true 0 4 = 4 from rfl, lb_err (by decide)]
      exact ⟨rfl, fun _ => rfl⟩
    · rw [if_neg h64, decide_eq_false h64, show rf false 0 4 = 0 from rfl]
      have := plb_lb (l := l) (ru l a e).1.toNat [] (ru l a e).2.1
      exact ⟨this.1, fun hz => this.2 (this.1 ▸ hz)⟩
  · have hz := h4 h
    rw [h1, hz, if_neg (by omega), decide_eq_false (by omega), h2, show rf false (ru l a e).2.2 4 = (ru l a e).2.2 from rfl, lb_err h]
    have : (plb l (Int.toNat 0) [] (pu l a e).2.1 (ru l a e).2.2).2.2 = (ru l a e).2.2 := rfl
    exact ⟨this, fun h0 => absurd (this ▸ h0) h⟩
theorem rf_true_e {e x : Int} (h : e ≠ 0) (b : Bool) : rf b e x = e := by
  unfold rf
  cases b <;> simp [h]
theorem pin_ri (l : List Int) (a : Nat) (e : Int) : (pin l a e).2.2 = (ri l a e).2.2 ∧ ((ri l a e).2.2 = 0 → pin l a e = ri l a e) := by
  generalize hp : rb l a e = p
  have key : ∀ k : Int, kd p.1 = k → kd (rb l a e).1 = k := fun k hk => by rw [hp]; exact hk
  have hr := kd_range p.1
  have hk : kd p.1 = 0 ∨ kd p.1 = 1 ∨ kd p.1 = 2 ∨ kd p.1 = 3 ∨ kd p.1 = 4 ∨ kd p.1 = 5 ∨ kd p.1 = 6 ∨ kd p.1 = 7 ∨ kd p.1 = 8 ∨ kd p.1 = 9 := by omega
  rcases hk with hk | hk | hk | hk | hk | hk | hk | hk | hk | hk
  · have e1 : pin l a e = ri l a e := by simp [pin, ri, hp, hk]
    rw [e1]; exact ⟨rfl, fun _ => rfl⟩
  · have e1 : pin l a e = ri l a e := by simp [pin, ri, hp, hk]
    rw [e1]; exact ⟨rfl, fun _ => rfl⟩
  · have e1 : pin l a e = ri l a e := by simp [pin, ri, hp, hk, rz]
    rw [e1]; exact ⟨rfl, fun _ => rfl⟩
  · have e1 : pin l a e = (⟨p.1, (pu l p.2.1 p.2.2).1, 0, 0, []⟩, (pu l p.2.1 p.2.2).2.1, (pu l p.2.1 p.2.2).2.2) := by simp [pin, hp, hk]
    have e2 : ri l a e = (⟨p.1, (ru l p.2.1 p.2.2).1, 0, 0, []⟩, (ru l p.2.1 p.2.2).2.1, (ru l p.2.1 p.2.2).2.2) := by simp [ri, hp, hk]
    obtain ⟨h1, h2, h3, h4⟩ := pu_ru l p.2.1 p.2.2
    rw [e1, e2]
    exact ⟨h2, fun h => by rw [h3 h]⟩
  · have e1 : pin l a e = (⟨p.1, (pu l (pla l p.2.1 p.2.2).2.1 (pla l p.2.1 p.2.2).2.2).1, 0, 0, (pla l p.2.1 p.2.2).1⟩, (pu l (pla l p.2.1 p.2.2).2.1 (pla l p.2.1 p.2.2).2.2).2.1, (pu l (pla l p.2.1 p.2.2).2.1 (pla l p.2.1 p.2.2).2.2).2.2) := by simp [pin, hp, hk]
    have e2 : ri l a e = (let q := ru l p.2.1 p.2.2; let r := lb l q.1.toNat [] q.2.1 (rf (decide (64 < q.1)) q.2.2 4); let s := ru l r.2.1 r.2.2; (⟨p.1, s.1, 0, 0, r.1⟩, s.2.1, s.2.2)) := by simp [ri, hp, hk]
    obtain ⟨h1, h2⟩ := pla_lb l p.2.1 p.2.2
    rw [e1, e2]
    simp only
    by_cases h : (pla l p.2.1 p.2.2).2.2 = 0
    · rw [← h2 h]
      obtain ⟨k1, k2, k3, k4⟩ := pu_ru l (pla l p.2.1 p.2.2).2.1 (pla l p.2.1 p.2.2).2.2
      exact ⟨k2, fun hz => by rw [k3 hz]⟩
    · rw [pu_e h, ru_e (by rw [← h1]; exact h)]
      exact ⟨h1, fun hz => absurd (h1.trans hz) h⟩
  · have e1 : pin l a e = (let q := pu l p.2.1 p.2.2; let r := rb l q.2.1 q.2.2; (⟨p.1, q.1, 0, 0, []⟩, r.2.1, rf (r.1 != 0) r.2.2 3)) := by simp [pin, hp, hk]
    have e2 : ri l a e = (let q := ru l p.2.1 p.2.2; let r := rb l q.2.1 q.2.2; (⟨p.1, q.1, 0, 0, []⟩, r.2.1, rf (r.1 != 0) r.2.2 3)) := by simp [ri, hp, hk]
    obtain ⟨h1, h2, h3, h4⟩ := pu_ru l p.2.1 p.2.2
    rw [e1, e2]
    simp only
    by_cases h : (ru l p.2.1 p.2.2).2.2 = 0
    · rw [h3 h]
      exact ⟨rfl, fun _ => rfl⟩
    · rw [h2, rb_err h, rb_err h]
      exact ⟨rfl, fun hz => absurd ((rf_true_e h _).symm.trans hz) h⟩
  · have e1 : pin l a e = (let q := pu l p.2.1 p.2.2; let r := pu l q.2.1 q.2.2; (⟨p.1, q.1, r.1, 0, []⟩, r.2.1, r.2.2)) := by simp [pin, hp, hk]
    have e2 : ri l a e = (let q := ru l p.2.1 p.2.2; let r := ru l q.2.1 q.2.2; (⟨p.1, q.1, r.1, 0, []⟩, r.2.1, r.2.2)) := by simp [ri, hp, hk]
    obtain ⟨h1, h2, h3, h4⟩ := pu_ru l p.2.1 p.2.2
    rw [e1, e2]
    simp only
    by_cases h : (ru l p.2.1 p.2.2).2.2 = 0
    · rw [h3 h]
      obtain ⟨k1, k2, k3, k4⟩ := pu_ru l (ru l p.2.1 p.2.2).2.1 (ru l p.2.1 p.2.2).2.2
      exact ⟨k2, fun hz => by rw [k3 hz]⟩
    · rw [h2, pu_e h, ru_e h]
      exact ⟨rfl, fun hz => absurd hz h⟩
  · have e1 : pin l a e = ri l a e := by simp [pin, ri, hp, hk]
    rw [e1]; exact ⟨rfl, fun _ => rfl⟩
  · have e1 : pin l a e = (⟨p.1, 0, 0, vaT 127 (ps 32 l p.2.1 p.2.2).1, []⟩, (ps 32 l p.2.1 p.2.2).2.1, (ps 32 l p.2.1 p.2.2).2.2) := by simp [pin, hp, hk]
    have e2 : ri l a e = (⟨p.1, 0, 0, vaT 127 (rs 32 l p.2.1 p.2.2).1, []⟩, (rs 32 l p.2.1 p.2.2).2.1, (rs 32 l p.2.1 p.2.2).2.2) := by simp [ri, hp, hk]
    obtain ⟨h1, h2, h3⟩ := ps_rs 32 l p.2.1 p.2.2
    rw [e1, e2]
    exact ⟨h2, fun h => by rw [h3 h]⟩
  · have e1 : pin l a e = (⟨p.1, 0, 0, vaT 126 (ps 64 l p.2.1 p.2.2).1, []⟩, (ps 64 l p.2.1 p.2.2).2.1, (ps 64 l p.2.1 p.2.2).2.2) := by simp [pin, hp, hk]
    have e2 : ri l a e = (⟨p.1, 0, 0, IntKind.u64.wrap (rs 64 l p.2.1 p.2.2).1, []⟩, (rs 64 l p.2.1 p.2.2).2.1, (rs 64 l p.2.1 p.2.2).2.2) := by simp [ri, hp, hk]
    obtain ⟨h1, h2, h3⟩ := ps_rs 64 l p.2.1 p.2.2
    have h4 : ∀ x : Int, vaT 126 x = IntKind.u64.wrap x := fun x => by rw [IntKind.wrap_u64]; rfl
    rw [e1, e2, h4]
    exact ⟨h2, fun h => by rw [h3 h]⟩
theorem pread_low (A : Option Addr) (n c : Nat) (at_ : Int) (w : World) (h1 : decide (at_ < 0) = true) : Calls Tryz.prog 244 #[.slice A n c, .int .i64 at_] w fun en w' => en = .returned (.tuple #[NoIns, .int .i64 0, .int .i64 1]) ∧ Below w.heap.size w w' := by
  go_enter Tryz.func244, Tryz.ntmps244
  go_wp2_with fail
  refine bodyPost_ret (v := .tuple #[NoIns, .int .i64 0, .int .i64 1]) (by simp [results, Tryz.results244, go_sem, NoIns]) rfl ⟨rfl, ?_⟩
  exact (Below.refl _ _).alloc (Nat.le_refl _) _
theorem pread_high (A : Option Addr) (n c : Nat) (at_ : Int) (w : World) (h1 : decide (at_ < 0) = false) (h2 : decide ((n : Int) < at_) = true) : Calls Tryz.prog 244 #[.slice A n c, .int .i64 at_] w fun en w' => en = .returned (.tuple #[NoIns, .int .i64 0, .int .i64 1]) ∧ Below w.heap.size w w' := by
  go_enter Tryz.func244, Tryz.ntmps244
  go_wp2_with fail
  refine bodyPost_ret (v := .tuple #[NoIns, .int .i64 0, .int .i64 1]) (by simp [results, Tryz.results244, go_sem, NoIns]) rfl ⟨rfl, ?_⟩
  exact (Below.refl _ _).alloc (Nat.le_refl _) _
theorem pread_core (A : Option Addr) (c a n : Nat) (l : List Int) (w : World) (op X B K e : Int) (L : List Int) (h1 : decide ((a : Int) < 0) = false) (h3 : decide (l.length < a) = false) (g : Nat) (hg : g = w.heap.size + 1)
    (hR : ∀ W, Below w.heap.size w W → RdAt W g (.slice A l.length c) (a : Int) 0 → Calls Tryz.prog 264 #[.pointer (some ⟨g, 0, none⟩)] W (InTold (.slice A l.length c) g op X B K L n e W)) (d : Ins × Int × Int)
    (hd : (e = 0 ∧ d = (⟨op, X, B, K, L⟩, (n : Int), 0)) ∨ (e ≠ 0 ∧ d = (⟨0, 0, 0, 0, []⟩, 0, e))) :
    Calls Tryz.prog 244 #[.slice A l.length c, .int .i64 (a : Int)] w (RiTold d w) := by
  subst hg
  have HH := Lib.hid hR
  clear hR
  go_enter Tryz.func244, Tryz.ntmps244
  go_wp2_with fail
  have HB1 := Lib.hid (((Below.refl w.heap.size w).alloc (Nat.le_refl _) (.cells #[.int .i64 0, .int .i64 0, .int .i64 0, .int .u64 0, .slice none 0 0] 67)).alloc (by simp) (.cells #[.slice A l.length c, .int .i64 (a : Int), .int .i64 0] 280))
  refine (HH.out _ HB1.out (RdAt.at_ _ _ _ _ _ _ (by simp))).mono ?_
  rintro en w2 ⟨o, rfl, hown, hrd, hbut⟩
  obtain ⟨P, cc, rfl⟩ := hown.form
  have HO := Lib.hid (((InAt.at_ w w.heap.size 0 0 0 0 (.slice none 0 0) 67 rfl).keep ((Below.refl _ _).alloc (Nat.le_refl _) (.cells #[.slice A l.length c, .int .i64 (a : Int), .int .i64 0] 280))).but hbut (by omega))
  have HB := Lib.hid (HB1.out.trans (hbut.below (by omega) (by simp)))
  have HR := Lib.hid hrd
  have HW := Lib.hid (hown.mono (B' := w.heap.size + 1) (by simp))
  obtain ⟨r0, rc0, rc1, rc2, rf0, rf1, rf2⟩ := hrd
  clear hown hbut
  rcases hd with ⟨rfl, rfl⟩ | ⟨he, rfl⟩
  · go_wp2_with fail
    have HI3 := InAt.at_ w2 w2.heap.size op X B K (.slice P L.length cc) 67 rfl
    have HR3 := HR.out.keep ((Below.refl _ _).alloc (Nat.le_refl _) (.cells #[.int .i64 op, .int .i64 X, .int .i64 B, .int .u64 K, .slice P L.length cc] 67))
    have HO3 := HO.out.keep ((Below.refl _ _).alloc (Nat.le_refl _) (.cells #[.int .i64 op, .int .i64 X, .int .i64 B, .int .u64 K, .slice P L.length cc] 67))
    have HW3 := HW.out.keep ((Below.refl _ _).alloc (Nat.le_refl _) (.cells #[.int .i64 op, .int .i64 X, .int .i64 B, .int .u64 K, .slice P L.length cc] 67))
    have HB3 := HB.out.alloc (Nat.le_of_lt HO.out.lt) (.cells #[.int .i64 op, .int .i64 X, .int .i64 B, .int .u64 K, .slice P L.length cc] 67)
    have hq1 : w2.heap.size ≠ w.heap.size := Nat.ne_of_gt HO.out.lt
    have hq2 : w2.heap.size ≠ w.heap.size + 1 := Nat.ne_of_gt r0
    clear rc0 rc1 rc2 rf0 rf1 rf2 r0 HR HO HW HB HB1
    generalize w2.alloc (.cells #[.int .i64 op, .int .i64 X, .int .i64 B, .int .u64 K, .slice P L.length cc] 67) = w3 at *
    generalize w2.heap.size = q at *
    have hq3 := Ne.symm hq1
    have hq4 := Ne.symm hq2
    have HB4 := Lib.hid HB3
    have HW4 := Lib.hid HW3
    obtain ⟨r0, rc0, rc1, rc2, rf0, rf1, rf2⟩ := HR3
    obtain ⟨o0, oc0, oc1, oc2, oc3, oc4, of0, of1, of2, of3, of4⟩ := HO3
    obtain ⟨i0, ic0, ic1, ic2, ic3, ic4, if0, if1, if2, if3, if4⟩ := HI3
    clear HB3 HW3
    go_region
    all_goals go_wp2_with fail
    all_goals (
      have hb := (((((HB4.out.setCell (p := ⟨w.heap.size, 0, none⟩) (Nat.le_refl _) (.int .i64 op)).setCell (p := ⟨w.heap.size, 1, none⟩) (Nat.le_refl _) (.int .i64 X)).setCell (p := ⟨w.heap.size, 2, none⟩) (Nat.le_refl _) (.int .i64 B)).setCell (p := ⟨w.heap.size, 3, none⟩) (Nat.le_refl _) (.int .u64 K)).setCell (p := ⟨w.heap.size, 4, none⟩) (Nat.le_refl _) (.slice P L.length cc))
      refine bodyPost_ret (v := .tuple #[.agg #[.int .i64 op, .int .i64 X, .int .i64 B, .int .u64 K, .slice P L.length cc], .int .i64 (n : Int), .int .i64 0]) (by simp [results, Tryz.results244, go_sem, oc0, oc1, oc2, oc3, oc4]) rfl ⟨_, rfl, (((((((HW4.out.far (p := ⟨w.heap.size, 0, none⟩) (Nat.lt_succ_self _) _).far (p := ⟨w.heap.size, 1, none⟩) (Nat.lt_succ_self _) _).far (p := ⟨w.heap.size, 2, none⟩) (Nat.lt_succ_self _) _).far (p := ⟨w.heap.size, 3, none⟩) (Nat.lt_succ_self _) _).far (p := ⟨w.heap.size, 4, none⟩) (Nat.lt_succ_self _) _).keep (drewB _)).mono (Nat.le_succ _)), hb.trans ((drewB _).mono hb.size)⟩)
  · have t1 : (e != 0) = true := by simpa using he
    go_wp2_with fail
    have HI3 := InAt.at_ w2 w2.heap.size op X B K (.slice P L.length cc) 67 rfl
    have HR3 := HR.out.keep ((Below.refl _ _).alloc (Nat.le_refl _) (.cells #[.int .i64 op, .int .i64 X, .int .i64 B, .int .u64 K, .slice P L.length cc] 67))
    have HO3 := HO.out.keep ((Below.refl _ _).alloc (Nat.le_refl _) (.cells #[.int .i64 op, .int .i64 X, .int .i64 B, .int .u64 K, .slice P L.length cc] 67))
    have HW3 := HW.out.keep ((Below.refl _ _).alloc (Nat.le_refl _) (.cells #[.int .i64 op, .int .i64 X, .int .i64 B, .int .u64 K, .slice P L.length cc] 67))
    have HB3 := HB.out.alloc (Nat.le_of_lt HO.out.lt) (.cells #[.int .i64 op, .int .i64 X, .int .i64 B, .int .u64 K, .slice P L.length cc] 67)
    have hq1 : w2.heap.size ≠ w.heap.size := Nat.ne_of_gt HO.out.lt
    have hq2 : w2.heap.size ≠ w.heap.size + 1 := Nat.ne_of_gt r0
    clear rc0 rc1 rc2 rf0 rf1 rf2 r0 HR HO HW HB HB1
    generalize w2.alloc (.cells #[.int .i64 op, .int .i64 X, .int .i64 B, .int .u64 K, .slice P L.length cc] 67) = w3 at *
    generalize w2.heap.size = q at *
    have hq3 := Ne.symm hq1
    have hq4 := Ne.symm hq2
    have HB4 := Lib.hid HB3
    have HW4 := Lib.hid HW3
    obtain ⟨r0, rc0, rc1, rc2, rf0, rf1, rf2⟩ := HR3
    obtain ⟨o0, oc0, oc1, oc2, oc3, oc4, of0, of1, of2, of3, of4⟩ := HO3
    obtain ⟨i0, ic0, ic1, ic2, ic3, ic4, if0, if1, if2, if3, if4⟩ := HI3
    clear HB3 HW3
    go_region
    all_goals go_wp2_with fail
    all_goals (
      have hb := (((((HB4.out.setCell (p := ⟨w.heap.size, 0, none⟩) (Nat.le_refl _) (.int .i64 0)).setCell (p := ⟨w.heap.size, 1, none⟩) (Nat.le_refl _) (.int .i64 0)).setCell (p := ⟨w.heap.size, 2, none⟩) (Nat.le_refl _) (.int .i64 0)).setCell (p := ⟨w.heap.size, 3, none⟩) (Nat.le_refl _) (.int .u64 0)).setCell (p := ⟨w.heap.size, 4, none⟩) (Nat.le_refl _) (.slice none 0 0))
      refine bodyPost_ret (v := .tuple #[NoIns, .int .i64 0, .int .i64 e]) (by simp [NoIns, results, Tryz.results244, go_sem, oc0, oc1, oc2, oc3, oc4]) rfl ⟨_, rfl, ownI_nil _ _, hb.trans ((drewB _).mono hb.size)⟩)
theorem pread_any {v : Value} {l : List Int} {w : World} (at_ : Int) (hs : Sl w v l) (hb : ∀ x ∈ l, 0 ≤ x ∧ x < 256) (hl : l.length ≤ 1000000) (hT : KTab w) : Calls Tryz.prog 244 #[v, .int .i64 at_] w (RiTold (rdo l at_) w) := by
  obtain ⟨A, c, hv, _⟩ := id hs
  subst hv
  unfold rdo
  by_cases h0 : at_ < 0
  · rw [if_pos (.inl h0)]
    exact (pread_low A _ c at_ w (decide_eq_true h0)).mono fun e w' ⟨k1, k2⟩ => ⟨_, k1, ownI_nil _ _, k2⟩
  · by_cases h1 : (l.length : Int) < at_
    · rw [if_pos (.inr h1)]
      exact (pread_high A _ c at_ w (decide_eq_false h0) (decide_eq_true h1)).mono fun e w' ⟨k1, k2⟩ => ⟨_, k1, ownI_nil _ _, k2⟩
    · rw [if_neg (by omega)]
      obtain ⟨a, rfl⟩ : ∃ a : Nat, at_ = (a : Int) := ⟨at_.toNat, by omega⟩
      rw [Int.toNat_natCast]
      have hR : ∀ W, Below w.heap.size w W → RdAt W (w.heap.size + 1) (.slice A l.length c) (a : Int) 0 → Calls Tryz.prog 264 #[.pointer (some ⟨w.heap.size + 1, 0, none⟩)] W (InsTold (.slice A l.length c) (w.heap.size + 1) (pin l a 0) W) := fun W hW hrd =>
        pinstr_any (w0 := w) ⟨hs, hb, hl, by omega, Nat.le_succ _, hW, hrd⟩ hT
      refine pread_core A c a _ l w _ _ _ _ _ _ (decide_eq_false h0) (by simp; omega) _ rfl hR _ ?_
      obtain ⟨h2, h3⟩ := pin_ri l a 0
      by_cases he : (ri l a 0).2.2 = 0
      · rw [if_pos he, h3 he]
        exact .inl ⟨he, rfl⟩
      · rw [if_neg he, ← h2]
        exact .inr ⟨by rw [h2]; exact he, rfl⟩
end Go.Proofs.YtffegkjlgeblbaaGreatDoor.Ins
end

section
/- What is told may be, is laid in no more bytes than it stood in. Plain lists. And what came in, what is owned, as lists somewhere. -/
namespace Go.Proofs.YtffegkjlgeblbaaGreatDoor.Ins
open Go.RowKit Ints Typ Leb
set_option maxRecDepth 100000
set_option maxHeartbeats 1000000
set_option linter.unusedVariables false

theorem InAt.run {W : World} {h : Nat} {op A B K : Int} {P : Option Addr} {n c : Nat} (H : InAt W h op A B K (.slice P n c)) : (Instr.loadAt 67 (.pointer (some ⟨h, 0, none⟩))).run Tryz.prog W = .ok (.agg #[.int .i64 op, .int .i64 A, .int .i64 B, .int .u64 K, .slice P n c]) W := by
  obtain ⟨_, q1, q2, q3, q4, q5, _, _, _, _, _⟩ := H
  go_simp
theorem came_slI {w : World} {a : Option Addr} {len cap : Nat} {zs : List Int} (h : Leb.Came .i64 w a len cap zs) : SlI w (.slice a len cap) (zs.take len) := by
  obtain ⟨h1, h2, h3, h4, h5⟩ := came_parts h
  refine ⟨a, cap, by rw [h1], by omega, h3, fun h0 => ?_⟩
  obtain ⟨g, off, e, hg, hc⟩ := h4 h0
  exact ⟨g, off, e, hg, fun j hj => hc j (by omega)⟩
theorem u64R_of {x : Int} (h : (Lit.int .u64 x).wf = true) : u64R x := by simpa [Lit.wf, IntKind.min, IntKind.max, IntKind.signed, IntKind.bits, u64R] using h
theorem own_cellsI {w : World} {B g cap : Nat} {v : Value} {n : Nat} {xs : List Value} {t : TypeId} (h : w.ownsRow B t 1 v n xs) (hv : v = .slice (some ⟨g, 0, none⟩) n cap) : ∀ j u, xs[j]? = some u → w.cell? ⟨g, 0 + j, none⟩ = some u := by
  intro j u hu
  have e := World.ownsRow.cells h (g := g) (by subst hv; rfl) j u hu
  cases j with
  | zero => simpa [Addr.add] using e
  | succ j => simpa [Addr.add] using e
theorem OwnI.slI {w : World} {B : Nat} {v : Value} {l : List Int} (h : Ins.OwnI w B v l) : SlI w v l := by
  have h' := h
  obtain ⟨_, ⟨hv, hl⟩ | ⟨g, cap, cur, hv, hB, hc, hle, hm, hsz, ht⟩⟩ := h'
  · have : l = [] := List.length_eq_zero_iff.1 hl
    subst this
    exact ⟨none, 0, hv, Nat.le_refl _, by omega, fun h => absurd rfl h⟩
  · refine ⟨_, cap, hv, hle, by unfold maxLen at hm; omega, fun h0 => ⟨g, 0, rfl, ?_, fun j hj => own_cellsI h hv j _ ?_⟩⟩
    · exact (Array.getElem?_eq_some_iff.1 hc).1
    · unfold Ins.vi; rw [List.getElem?_map, List.getElem?_eq_getElem hj]; simp [hj]
end Go.Proofs.YtffegkjlgeblbaaGreatDoor.Ins
end

section
/- The listed tables, as the rows have them, stand in their variables. -/
namespace Go.Proofs.YtffegkjlgeblbaaGreatDoor.Ins
open Go.ChangeShapes Go.WideShapes Go.ChangeAt Go.RowKit
set_option maxRecDepth 100000
set_option linter.unusedVariables false

def laidK : List (String × DataW Unit) := [("avocet/instr.kinds", Rows.laid_avocet_instr_kinds)]
theorem kinds_data : (Rows.laid_avocet_instr_kinds : DataW Unit) = .agg ((List.range 174).map fun r : Nat => .lit (.int .u8 (kd (r : Int)))) := by kernel_rfl
theorem cell_lt {w : World} {a : Addr} {v : Value} (h : w.cell? a = some v) : a.block < w.heap.size := by
  unfold World.cell? at h
  by_cases hlt : a.block < w.heap.size
  · exact hlt
  · rw [Array.getElem?_eq_none (by omega)] at h
    simp at h
theorem ktab_core {W : World} {g t : Nat} {cs : Array Value} {fuel : Nat} {p : List MemPlace} (hg : Tryz.prog.globalNamed "avocet/instr.kinds" = some g) (ht : (Tryz.prog.globals[g]?).map (·.type) = some t) (hv : W.var? Tryz.prog "avocet/instr.kinds" = some cs)
    (hd : DataW.trod (fun _ => ()) Tryz.prog W 0 (fun _ => true) false fuel t cs.toList = some (Rows.laid_avocet_instr_kinds, p)) : KTab W := by
  obtain rfl := Option.some.inj ((show Tryz.prog.globalNamed "avocet/instr.kinds" = some 1 by kernel_rfl).symm.trans hg)
  obtain rfl := Option.some.inj ((show (Tryz.prog.globals[1]?).map (·.type) = some 295 by kernel_rfl).symm.trans ht)
  obtain ⟨xs, m, _, ex, _, hl, hel⟩ := DataW.trod_array Tryz.underlying295 hd
  have c5 : Tryz.prog.cellsOf 5 = 1 := by kernel_rfl
  have key : ∀ r : Nat, r < 174 → W.cell? ⟨1, r, none⟩ = some (.int .u8 (kd (r : Int))) := by
    intro r hr
    have hE := hel r hr
    rw [c5, Nat.mul_one, List.getElem?_eq_getElem (by omega)] at hE
    obtain ⟨z, e1, e2, _⟩ := DataW.trod_int Tryz.underlying5 hE
    rw [kinds_data] at ex
    have e3 : (xs.map (·.1)) = (List.range 174).map fun r : Nat => (.lit (.int .u8 (kd (r : Int))) : DataW Unit) := (DataW.agg.inj (Prod.mk.inj ex).1).symm
    have e4 : (xs.map (·.1))[r]? = ((List.range 174).map fun r : Nat => (DataW.lit (.int .u8 (kd (r : Int))) : DataW Unit))[r]? := by rw [e3]
    rw [List.getElem?_map, List.getElem?_map, List.getElem?_eq_getElem (by omega : r < xs.length), List.getElem?_range hr, e2] at e4
    have hz : z = kd (r : Int) := by simpa only [Option.map_some, Option.some.injEq, DataW.lit.injEq, Lit.int.injEq, true_and] using e4
    rw [World.var?_cell hg hv r, ← hz]
    have : cs.toList[r]? = some (.int .u8 z) := by
      have h0 : ((cs.toList.drop r).take 1)[0]? = some (.int .u8 z) := by rw [e1]; rfl
      simpa using h0
    simpa using this
  exact ⟨cell_lt (key 0 (by decide)), key⟩
theorem ktab_of_laidK {W : World} (h : laidMetH Tryz.prog laidK W) : KTab W := by
  rw [MakeChecks.laidMetH_plain _ _ _ (by kernel_rfl)] at h
  obtain ⟨ps, ⟨g, t, cs, fuel, p, q, hg, ht, hv, hd, _, _⟩, _, _⟩ := h
  exact ktab_core hg ht hv hd
end Go.Proofs.YtffegkjlgeblbaaGreatDoor.Ins
end
