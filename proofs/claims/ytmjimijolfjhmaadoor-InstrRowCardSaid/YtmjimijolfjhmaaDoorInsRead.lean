/- The document's reader: an instruction, of whatever kind. -/
import Derived.Test.YtmjimijolfjhmaaDoorInsInstrE
import Derived.Test.YtmjimijolfjhmaaDoorInsInstrB
import Derived.Test.YtmjimijolfjhmaaDoorInsInstrB2
import Derived.Test.YtmjimijolfjhmaaDoorInsInstrC
import Derived.Test.YtmjimijolfjhmaaDoorInsInstrC2
import Derived.Test.YtmjimijolfjhmaaDoorInsInstrD
import Derived.Test.YtmjimijolfjhmaaDoorInsTable
namespace Go.Proofs.YtmjimijolfjhmaaDoor.Ins
open Go.RowKit Ints Typ
set_option maxRecDepth 100000
set_option maxHeartbeats 1000000

/-- An instruction. -/
structure Ins where
  op : Int
  A : Int
  B : Int
  K : Int
  L : List Int
/-- The next instruction; the place behind it; the error. -/
def ri (l : List Int) (a : Nat) (e : Int) : Ins × Nat × Int :=
  let p := rb l a e
  if kd p.1 = 0 then (⟨p.1, 0, 0, 0, []⟩, p.2.1, rf true p.2.2 3)
  else if kd p.1 = 1 then (⟨p.1, 0, 0, 0, []⟩, p.2.1, p.2.2)
  else if kd p.1 = 2 then
    let q := rb l p.2.1 p.2.2
    (⟨p.1, if q.1 = 64 then 0 else q.1, 0, 0, []⟩, q.2.1, rf (q.1 != 64 && (q.1 != 126 && q.1 != 127)) q.2.2 3)
  else if kd p.1 = 3 then
    let q := ru l p.2.1 p.2.2
    (⟨p.1, q.1, 0, 0, []⟩, q.2.1, q.2.2)
  else if kd p.1 = 4 then
    let q := ru l p.2.1 p.2.2
    let r := lb l q.1.toNat [] q.2.1 (rf (decide (64 < q.1)) q.2.2 4)
    let s := ru l r.2.1 r.2.2
    (⟨p.1, s.1, 0, 0, r.1⟩, s.2.1, s.2.2)
  else if kd p.1 = 5 then
    let q := ru l p.2.1 p.2.2
    let r := rb l q.2.1 q.2.2
    (⟨p.1, q.1, 0, 0, []⟩, r.2.1, rf (r.1 != 0) r.2.2 3)
  else if kd p.1 = 6 then
    let q := ru l p.2.1 p.2.2
    let r := ru l q.2.1 q.2.2
    (⟨p.1, q.1, r.1, 0, []⟩, r.2.1, r.2.2)
  else if kd p.1 = 7 then
    let r := rb l p.2.1 p.2.2
    (⟨p.1, 0, 0, 0, []⟩, r.2.1, rf (r.1 != 0) r.2.2 3)
  else if kd p.1 = 8 then
    let q := rs 32 l p.2.1 p.2.2
    (⟨p.1, 0, 0, vaT 127 q.1, []⟩, q.2.1, q.2.2)
  else
    let q := rs 64 l p.2.1 p.2.2
    (⟨p.1, 0, 0, IntKind.u64.wrap q.1, []⟩, q.2.1, q.2.2)
theorem ru_nat (l : List Int) (a : Nat) (e : Int) : (((ru l a e).1.toNat : Nat) : Int) = (ru l a e).1 := by
  unfold ru
  split
  · rfl
  · cases Leb.rdl Leb.fitU 32 (l.drop a) 0 0 <;> simp
def InsTold (v : Value) (g : Nat) (x : Ins × Nat × Int) (w : World) (en : Ending) (w' : World) : Prop := InTold v g x.1.op x.1.A x.1.B x.1.K x.1.L x.2.1 x.2.2 w en w'
theorem instr_any {w0 w : World} {v : Value} {l : List Int} {g a : Nat} {e : Int} (h : Rd w0 v l g w a e) : Calls Tryd.prog 25 #[.pointer (some ⟨g, 0, none⟩)] w (InsTold v g (ri l a e) w) := by
  have hp := rb_le (e := e) h.at_le
  have hB := fun W (H : Rd w0 v l g W a e) => byte_any H
  have hr := kd_range (rb l a e).1
  have hK : ∀ k : Int, kd (rb l a e).1 = k → ∀ W, Calls Tryd.prog 22 #[.int .i64 (rb l a e).1] W fun en w' => en = .returned (.int .i64 k) ∧ Below W.heap.size W w' := fun k hk W => by
    have := rkind_any (rb l a e).1 W
    unfold KdTold at this
    rwa [hk] at this
  have hk : kd (rb l a e).1 = 0 ∨ kd (rb l a e).1 = 1 ∨ kd (rb l a e).1 = 2 ∨ kd (rb l a e).1 = 3 ∨ kd (rb l a e).1 = 4 ∨ kd (rb l a e).1 = 5 ∨ kd (rb l a e).1 = 6 ∨ kd (rb l a e).1 = 7 ∨ kd (rb l a e).1 = 8 ∨ kd (rb l a e).1 = 9 := by omega
  rcases hk with hk | hk | hk | hk | hk | hk | hk | hk | hk | hk
  · rw [show ri l a e = (⟨(rb l a e).1, 0, 0, 0, []⟩, (rb l a e).2.1, rf true (rb l a e).2.2 3) from by simp [ri, hk]]
    exact ins_bad h _ _ _ _ hp hB (hK 0 hk) fun W H => fail_any true 3 H
  · rw [show ri l a e = (⟨(rb l a e).1, 0, 0, 0, []⟩, (rb l a e).2.1, (rb l a e).2.2) from by simp [ri, hk]]
    exact ins_plain h _ _ _ hp hB (hK 1 hk)
  · have hB2 := fun W (H : Rd w0 v l g W (rb l a e).2.1 (rb l a e).2.2) => byte_any H
    have hq := rb_le (e := (rb l a e).2.2) hp
    rw [show ri l a e = (⟨(rb l a e).1, if (rb l (rb l a e).2.1 (rb l a e).2.2).1 = 64 then 0 else (rb l (rb l a e).2.1 (rb l a e).2.2).1, 0, 0, []⟩, (rb l (rb l a e).2.1 (rb l a e).2.2).2.1, rf ((rb l (rb l a e).2.1 (rb l a e).2.2).1 != 64 && ((rb l (rb l a e).2.1 (rb l a e).2.2).1 != 126 && (rb l (rb l a e).2.1 (rb l a e).2.2).1 != 127)) (rb l (rb l a e).2.1 (rb l a e).2.2).2.2 3) from by simp [ri, hk]]
    generalize rb l (rb l a e).2.1 (rb l a e).2.2 = q at *
    obtain ⟨x, a3, e3⟩ := q
    by_cases h64 : x = 64
    · subst h64
      exact ins_block64 h _ _ _ a3 e3 hp hB (hK 2 hk) hB2 hq
    · by_cases h126 : x = 126
      · subst h126
        exact ins_block126 h _ _ _ a3 e3 hp hB (hK 2 hk) hB2 hq
      · by_cases h127 : x = 127
        · subst h127
          exact ins_block127 h _ _ _ a3 e3 hp hB (hK 2 hk) hB2 hq
        · have q1 : (x != 64) = true := by simpa using h64
          have q2 : (x != 126) = true := by simpa using h126
          have q3 : (x != 127) = true := by simpa using h127
          rw [q1, q2, q3, if_neg h64]
          exact ins_blockbad h _ _ _ x a3 e3 _ hp hB (hK 2 hk) q1 q2 q3 (by simpa using h64) hB2 hq fun W H => fail_any true 3 H
  · rw [show ri l a e = (⟨(rb l a e).1, (ru l (rb l a e).2.1 (rb l a e).2.2).1, 0, 0, []⟩, (ru l (rb l a e).2.1 (rb l a e).2.2).2.1, (ru l (rb l a e).2.1 (rb l a e).2.2).2.2) from by simp [ri, hk]]
    exact ins_index h _ _ _ _ _ _ hp hB (hK 3 hk) (fun W H => u_any H) (ru_le hp)
  · have hN := ru_nat l (rb l a e).2.1 (rb l a e).2.2
    have hU := fun W (H : Rd w0 v l g W (rb l a e).2.1 (rb l a e).2.2) => u_any H
    have hl := ru_le (e := (rb l a e).2.2) hp
    have hri : ri l a e = (let q := ru l (rb l a e).2.1 (rb l a e).2.2; let r := lb l q.1.toNat [] q.2.1 (rf (decide (64 < q.1)) q.2.2 4); let s := ru l r.2.1 r.2.2; (⟨(rb l a e).1, s.1, 0, 0, r.1⟩, s.2.1, s.2.2)) := by simp [ri, hk]
    rw [hri]
    clear hri
    generalize ru l (rb l a e).2.1 (rb l a e).2.2 = q at *
    obtain ⟨x, a3, e3⟩ := q
    simp only at hN hU hl ⊢
    rw [← hN] at hU
    have hx : (64 : Int) < x ↔ (64 : Int) < ((x.toNat : Nat) : Int) := by rw [hN]
    simp only [hx]
    refine ins_table h _ _ _ x.toNat _ a3 e3 _ _ _ _ hp hB (hK 4 hk) rfl hU hl (fun W H => fail_any _ 4 H) ?_ rfl
    intro hz
    by_cases h64 : (64 : Int) < ((x.toNat : Nat) : Int)
    · rw [decide_eq_true h64] at hz
      unfold rf at hz
      simp only [cond_true] at hz
      split at hz <;> omega
    · omega
  · have hU := fun W (H : Rd w0 v l g W (rb l a e).2.1 (rb l a e).2.2) => u_any H
    have hl := ru_le (e := (rb l a e).2.2) hp
    have hri : ri l a e = (let q := ru l (rb l a e).2.1 (rb l a e).2.2; let r := rb l q.2.1 q.2.2; (⟨(rb l a e).1, q.1, 0, 0, []⟩, r.2.1, rf (r.1 != 0) r.2.2 3)) := by simp [ri, hk]
    rw [hri]
    clear hri
    generalize ru l (rb l a e).2.1 (rb l a e).2.2 = q at *
    obtain ⟨x, a3, e3⟩ := q
    have hB2 := fun W (H : Rd w0 v l g W a3 e3) => byte_any H
    have hq := rb_le (e := e3) hl
    simp only at hB2 hq ⊢
    generalize rb l a3 e3 = r at *
    obtain ⟨y, a4, e4⟩ := r
    by_cases hy : y = 0
    · subst hy
      exact ins_call0 h _ _ _ x a3 e3 a4 e4 hp hB (hK 5 hk) hU hl hB2 hq
    · have q1 : (y != 0) = true := by simpa using hy
      simp only [q1]
      exact ins_callbad h _ _ _ x y a3 e3 a4 e4 _ hp hB (hK 5 hk) q1 hU hl hB2 hq fun W H => fail_any true 3 H
  · have hri : ri l a e = (let q := ru l (rb l a e).2.1 (rb l a e).2.2; let r := ru l q.2.1 q.2.2; (⟨(rb l a e).1, q.1, r.1, 0, []⟩, r.2.1, r.2.2)) := by simp [ri, hk]
    rw [hri]
    exact ins_mem h _ _ _ _ _ _ _ _ _ hp hB (hK 6 hk) (fun W H => u_any H) (ru_le hp) (fun W H => u_any H) (ru_le (ru_le hp))
  · have hB2 := fun W (H : Rd w0 v l g W (rb l a e).2.1 (rb l a e).2.2) => byte_any H
    have hq := rb_le (e := (rb l a e).2.2) hp
    have hri : ri l a e = (let r := rb l (rb l a e).2.1 (rb l a e).2.2; (⟨(rb l a e).1, 0, 0, 0, []⟩, r.2.1, rf (r.1 != 0) r.2.2 3)) := by simp [ri, hk]
    rw [hri]
    clear hri
    generalize rb l (rb l a e).2.1 (rb l a e).2.2 = q at *
    obtain ⟨y, a3, e3⟩ := q
    by_cases hy : y = 0
    · subst hy
      exact ins_mop0 h _ _ _ a3 e3 hp hB (hK 7 hk) hB2 hq
    · have q1 : (y != 0) = true := by simpa using hy
      simp only [q1]
      exact ins_mopbad h _ _ _ y a3 e3 _ hp hB (hK 7 hk) q1 hB2 hq fun W H => fail_any true 3 H
  · have hri : ri l a e = (let q := rs 32 l (rb l a e).2.1 (rb l a e).2.2; (⟨(rb l a e).1, 0, 0, vaT 127 q.1, []⟩, q.2.1, q.2.2)) := by simp [ri, hk]
    rw [hri]
    exact ins_c32 h _ _ _ _ _ _ _ hp hB (hK 8 hk) (fun W H => s_any 32 (.inl rfl) H) (rs_le hp) fun W => rvalue_any 127 _ W
  · have hri : ri l a e = (let q := rs 64 l (rb l a e).2.1 (rb l a e).2.2; (⟨(rb l a e).1, 0, 0, IntKind.u64.wrap q.1, []⟩, q.2.1, q.2.2)) := by simp [ri, hk]
    rw [hri]
    exact ins_c64 h _ _ _ _ _ _ hp hB (hK 9 hk) (fun W H => s_any 64 (.inr rfl) H) (rs_le hp)
end Go.Proofs.YtmjimijolfjhmaaDoor.Ins
