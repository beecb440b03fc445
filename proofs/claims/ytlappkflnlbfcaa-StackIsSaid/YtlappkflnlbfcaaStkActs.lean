/- Acts: plain, and in memory; what they make of a stack; few. -/
import Derived.Test.YtlappkflnlbfcaaStkLabel
namespace Go.Proofs.Ytlappkflnlbfcaa.Stk
open Go.RowKit Row9
set_option maxRecDepth 100000
set_option maxHeartbeats 2000000
set_option linter.unusedVariables false
theorem pushS_is (s : Stk) (l : List Int) : pushS s l = made s (pe l) ⟨s.vals ++ l, s.cs⟩ := by
  unfold pushS made pe
  split
  · rfl
  · cases l.any noT <;> rfl
theorem wantS_is (s : Stk) (l : List Int) : wantS s l = made s (we (wantV s.cs.getLast? s.vals l.reverse)) ⟨(wantV s.cs.getLast? s.vals l.reverse).getD [], s.cs⟩ := by
  unfold wantS made
  split
  · rfl
  · cases wantV s.cs.getLast? s.vals l.reverse <;> rfl
theorem openS_is (s : Stk) (op : Int) (l : List Int) : openS s op l = made s (oe l) ⟨s.vals, s.cs ++ [⟨op, l, s.vals.length, false⟩]⟩ := by
  unfold openS made oe
  split
  · rfl
  · cases mayE l <;> rfl
theorem killS_is (s : Stk) : killS s = made s (ke s.cs) ⟨s.vals.take (kh s.cs), s.cs.dropLast ++ kd s.cs⟩ := by
  unfold killS made ke kh kd
  split
  · rfl
  · cases s.cs.getLast? <;> rfl
/-- One thing that is done: what, a code, types. -/
structure Act9 where
  what : Int
  op : Int
  L : List Int
abbrev ActV := Act9 × Value
/-- What an act makes of a stack. -/
def act (s : Stk) (a : Act9) : Stk × Int :=
  if a.what = 0 ∨ a.what = 1 then pushS s a.L else if a.what = 2 then ((popS s).1, (popS s).2.2) else if a.what = 3 ∨ a.what = 4 then wantS s a.L else if a.what = 5 then openS s a.op a.L else if a.what = 6 then ((closeS s).1, (closeS s).2.2) else if a.what = 7 then killS s else (s, 1)
def stepA (s : Stk) (a : Act9) : Stk := if (act s a).2 = 0 then (act s a).1 else s
def grow (l : List Act9) : Stk := l.foldl stepA none_
def fewL (l : List Act9) : Bool := decide (l.length ≤ 100) && l.all fun a => decide (a.L.length ≤ 20)
theorem popV_le {o : Option Ctl} {vals vs : List Int} {v : Int} (h : popV o vals = some (vs, v)) : vs.length ≤ vals.length := popV_len h
theorem wantV_le : ∀ (r : List Int) {o : Option Ctl} {vals vs : List Int}, wantV o vals r = some vs → vs.length ≤ vals.length
  | [], o, vals, vs, h => by
    obtain rfl : vals = vs := Option.some.inj h
    exact Nat.le_refl _
  | x :: r, o, vals, vs, h => by
    rw [wantV] at h
    split at h
    · cases h
    · rename_i vs1 v hp
      split at h
      · have := wantV_le r h
        have := popV_len hp
        omega
      · cases h
theorem made_le {s s' : Stk} {e0 : Int} {n m : Nat} (hv : s'.vals.length ≤ n) (hc : s'.cs.length ≤ m) : (made s e0 s').1.vals.length ≤ n ∧ (made s e0 s').1.cs.length ≤ m := by
  unfold made
  split
  · exact ⟨Nat.zero_le _, Nat.zero_le _⟩
  · split
    · exact ⟨hv, hc⟩
    · exact ⟨Nat.zero_le _, Nat.zero_le _⟩
theorem act_le (s : Stk) (a : Act9) : (act s a).1.vals.length ≤ s.vals.length + a.L.length ∧ (act s a).1.cs.length ≤ s.cs.length + 1 := by
  unfold act
  split
  · rw [pushS_is]
    exact made_le (by simp) (by simp)
  · split
    · rw [popS_is]
      unfold popMade
      split
      · exact ⟨Nat.zero_le _, Nat.zero_le _⟩
      · cases h : popV s.cs.getLast? s.vals with
        | none => exact ⟨Nat.zero_le _, Nat.zero_le _⟩
        | some p =>
          obtain ⟨vs, v⟩ := p
          have := popV_len h
          exact ⟨by show vs.length ≤ _; omega, by show s.cs.length ≤ _; omega⟩
    · split
      · rw [wantS_is]
        refine made_le ?_ (by simp)
        cases h : wantV s.cs.getLast? s.vals a.L.reverse with
        | none => simp
        | some vs => have := wantV_le _ h; show vs.length ≤ _; omega
      · split
        · rw [openS_is]
          exact made_le (by simp) (by simp)
        · split
          · rw [closeS_is]
            unfold closeMade
            split
            · exact ⟨Nat.zero_le _, Nat.zero_le _⟩
            · cases h : closeV s.vals s.cs with
              | none => exact ⟨Nat.zero_le _, Nat.zero_le _⟩
              | some p =>
                obtain ⟨vs, c⟩ := p
                have hl : vs.length ≤ s.vals.length := by
                  unfold closeV at h
                  split at h
                  · cases h
                  · split at h
                    · cases h
                    · rename_i hw
                      split at h
                      · cases h
                      · simp only [Option.some.injEq, Prod.mk.injEq] at h
                        have := wantV_le _ hw
                        rw [← h.1]
                        exact this
                exact ⟨by show vs.length ≤ _; omega, by show s.cs.dropLast.length ≤ _; rw [List.length_dropLast]; omega⟩
          · split
            · rw [killS_is]
              refine made_le (by rw [List.length_take]; omega) ?_
              rw [List.length_append, List.length_dropLast]
              unfold kd
              cases h : s.cs.getLast? with
              | none => show s.cs.length - 1 + 0 ≤ _; omega
              | some c => show s.cs.length - 1 + 1 ≤ _; omega
            · exact ⟨by show s.vals.length ≤ _; omega, by show s.cs.length ≤ _; omega⟩
theorem stepA_le (s : Stk) (a : Act9) : (stepA s a).vals.length ≤ s.vals.length + a.L.length ∧ (stepA s a).cs.length ≤ s.cs.length + 1 := by
  unfold stepA
  split
  · exact act_le s a
  · exact ⟨by omega, by omega⟩
theorem grow_take {l : List Act9} {i : Nat} {a : Act9} (h : l[i]? = some a) : grow (l.take (i + 1)) = stepA (grow (l.take i)) a := by
  unfold grow
  obtain ⟨h1, h2⟩ := List.getElem?_eq_some_iff.1 h
  rw [List.take_succ_eq_append_getElem h1, List.foldl_append, h2]
  rfl
theorem foldl_le : ∀ (l : List Act9) (s : Stk), (∀ a ∈ l, a.L.length ≤ 20) → (l.foldl stepA s).vals.length ≤ s.vals.length + 20 * l.length ∧ (l.foldl stepA s).cs.length ≤ s.cs.length + l.length
  | [], s, _ => ⟨by simp, by simp⟩
  | a :: l, s, h => by
    have h1 := foldl_le l (stepA s a) (fun b hb => h b (List.mem_cons_of_mem _ hb))
    have h2 := stepA_le s a
    have h3 := h a (by simp)
    rw [List.foldl_cons, List.length_cons]
    omega
theorem grow_le {l : List Act9} (h : fewL l = true) : (grow l).vals.length ≤ 2000 ∧ (grow l).cs.length ≤ 100 := by
  unfold fewL at h
  simp only [Bool.and_eq_true, decide_eq_true_eq, List.all_eq_true] at h
  have := foldl_le l none_ h.2
  unfold grow
  have e1 : none_.vals.length = 0 := rfl
  have e2 : none_.cs.length = 0 := rfl
  omega
end Go.Proofs.Ytlappkflnlbfcaa.Stk
