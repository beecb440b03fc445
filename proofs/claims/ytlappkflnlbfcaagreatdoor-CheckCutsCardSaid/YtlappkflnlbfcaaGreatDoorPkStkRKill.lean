/- StkTheirs, StkBk, StkCopied, StkRPush, StkRKill. -/
import Derived.Test.YtlappkflnlbfcaaGreatDoorPkStackDeadWalk
import Derived.Deep.RegionLaw
import Derived.ArgAppend
section
/- The law's theirs, walked: the same stack, as the document's. -/
namespace Go.Proofs.YtlappkflnlbfcaaGreatDoor.Stk
open Go.RowKit Row9
set_option maxRecDepth 100000
set_option maxHeartbeats 4000000
set_option linter.unusedVariables false
/-- A row of the call's own does not lie in a block of another type. -/
theorem own_notB {w : World} {B b e s n : Nat} {v : Value} {xs : List Value} {cur : Array Value} {t : TypeId} (h : w.ownsRow B e s v n xs) (hb : w.heap[b]? = some (.cells cur t (0, 0))) (hne : e ≠ t) {k : Nat} (hk : v.ownBlock = some k) : k ≠ b := by
  intro e1
  subst e1
  obtain ⟨cur', h1⟩ := own_type h hk
  rw [hb] at h1
  simp only [Option.some.injEq, Obj.cells.injEq] at h1
  exact hne h1.2.1.symm
end Go.Proofs.YtlappkflnlbfcaaGreatDoor.Stk
end

section
/- What StackBack's regions read: loads, places, comparisons; a row's first. -/
namespace Go.Proofs.YtlappkflnlbfcaaGreatDoor.Stab
open Go.RowKit
set_option maxRecDepth 100000
set_option linter.unusedVariables false
section
variable {P : Program} {ops : Array Oper} {w0 : World} {a0 : Act} {env : List (Tmp × Sp)} {o : Oper}
theorem owes_not {t : TypeId} {x : Operand} {b : Bool} (ho : o.op = .unOp .not t x) (hx : evalS a0 env x = .is (.bool b)) (hr : ∀ w, (Op.unary .not (.bool b)).run P w = .ok (.bool !b) w) (hw : wantB ops a0 env o = true) : Owes P ops w0 a0 env o (.is (.bool !b)) :=
  owes_run hw fun ρ w _ hρ => by
    have h1 := hρ x (by simp [ho, Op.operands])
    rw [hx] at h1
    have h1 : ρ x = .bool b := h1
    simp only [execOp, ho, h1]
    rw [Sem.run_bind, hr w]
    exact ⟨Below.refl _ _, rfl⟩
end
theorem run_not {P : Program} (b : Bool) (W : World) : (Op.unary .not (.bool b)).run P W = .ok (.bool !b) W := by go_simp
theorem run_lenB (A : Option Addr) (n c : Nat) (ty : TypeId) (W : World) : (Builtin.len_ #[25] ty #[.slice A n c]).run Tryz.prog W = .ok (.int .i64 (n : Int)) W := by go_simp
theorem run_eqE (x y : Operand) (a b : Int) (r : Bool) (h : (a == b) = r) (W : World) : (do eqGuard BinOp.eql 40 x y (.int .i64 a) (.int .i64 b); binOp BinOp.eql 40 (.int .i64 a) (.int .i64 b) : Sem Value).run Tryz.prog W = .ok (.bool r) W := by
  subst h; go_simp
theorem run_neE (x y : Operand) (a b : Int) (r : Bool) (h : (a != b) = r) (W : World) : (do eqGuard BinOp.neq 40 x y (.int .i64 a) (.int .i64 b); binOp BinOp.neq 40 (.int .i64 a) (.int .i64 b) : Sem Value).run Tryz.prog W = .ok (.bool r) W := by
  subst h; go_simp
theorem run_eqI (x y : Operand) (a b : Int) (r : Bool) (h : (a == b) = r) (W : World) : (do eqGuard BinOp.eql 3 x y (.int .i64 a) (.int .i64 b); binOp BinOp.eql 3 (.int .i64 a) (.int .i64 b) : Sem Value).run Tryz.prog W = .ok (.bool r) W := by
  subst h; go_simp
theorem run_eqS (x y : Operand) (s t : ByteArray) (r : Bool) (h : (s.toList == t.toList) = r) (W : World) : (do eqGuard BinOp.eql 9 x y (.string s) (.string t); binOp BinOp.eql 9 (.string s) (.string t) : Sem Value).run Tryz.prog W = .ok (.bool r) W := by
  subst h; go_simp
theorem run_cellI (x : Int) (g o : Nat) (W : World) (h : W.cell? ⟨g, o, none⟩ = some (.int .i64 x)) : (Instr.loadAt 3 (.pointer (some ⟨g, o, none⟩))).run Tryz.prog W = .ok (.int .i64 x) W := by go_simp
theorem run_cellT (x : Bool) (g o : Nat) (W : World) (h : W.cell? ⟨g, o, none⟩ = some (.bool x)) : (Instr.loadAt 4 (.pointer (some ⟨g, o, none⟩))).run Tryz.prog W = .ok (.bool x) W := by go_simp
theorem run_cellS (A : Option Addr) (n c g o : Nat) (W : World) (h : W.cell? ⟨g, o, none⟩ = some (.slice A n c)) : (Instr.loadAt 25 (.pointer (some ⟨g, o, none⟩))).run Tryz.prog W = .ok (.slice A n c) W := by go_simp
theorem run_fS0 (g : Nat) (W : World) : (Instr.fieldAt 39 (.pointer (some ⟨g, 0, none⟩)) 0).run Tryz.prog W = .ok (.pointer (some ⟨g, 0, none⟩)) W := by go_simp
theorem run_fC0 (g : Nat) (W : World) : (Instr.fieldAt 72 (.pointer (some ⟨g, 0, none⟩)) 0).run Tryz.prog W = .ok (.pointer (some ⟨g, 0, none⟩)) W := by go_simp
theorem run_fC1 (g : Nat) (W : World) : (Instr.fieldAt 72 (.pointer (some ⟨g, 0, none⟩)) 1).run Tryz.prog W = .ok (.pointer (some ⟨g, 1, none⟩)) W := by go_simp
theorem run_fC2 (g : Nat) (W : World) : (Instr.fieldAt 72 (.pointer (some ⟨g, 0, none⟩)) 2).run Tryz.prog W = .ok (.pointer (some ⟨g, 2, none⟩)) W := by go_simp
theorem run_fC3 (g : Nat) (W : World) : (Instr.fieldAt 72 (.pointer (some ⟨g, 0, none⟩)) 3).run Tryz.prog W = .ok (.pointer (some ⟨g, 3, none⟩)) W := by go_simp
end Go.Proofs.YtlappkflnlbfcaaGreatDoor.Stab
namespace Go.Proofs.YtlappkflnlbfcaaGreatDoor.Stk
open Go.RowKit Row9
set_option maxRecDepth 100000
set_option linter.unusedVariables false
theorem ld_stk {W : World} {x n c m d : Nat} {P Q : Option Addr} {t : TypeId} (h : W.heap[x]? = some (.cells #[.slice P n c, .slice Q m d] t (0, 0))) : (Instr.loadAt 39 (.pointer (some ⟨x, 0, none⟩))).run Tryz.prog W = .ok (.agg #[.slice P n c, .slice Q m d]) W := by
  obtain ⟨h0, h1⟩ := cells2 h
  go_simp
theorem blk {w W : World} {x : Nat} {o : Obj} (h : w.heap[x]? = some o) (hb : Below w.heap.size w W) : W.heap[x]? = some o := (hb.block x (lt_of_heap h)).trans h
theorem row_nil_new (w : World) : Row elB (w.alloc (.cells #[] 5)) (.slice (some ⟨w.heap.size, 0, none⟩) 0 0) [] := (own_new elB w).row (by simp)
theorem row_first {w : World} {A : Option Addr} {n c : Nat} {x : Int} {r : List Int} (h : Row elB w (.slice A n c) (x :: r)) : Row elB w (.slice A 1 c) [x] := by
  obtain ⟨⟨A', c', h1, h2, h3, h4⟩, h5⟩ := h
  injection h1 with e1 e2 e3
  subst e1 e3
  refine ⟨⟨A, c, rfl, ?_, h3, fun _ => ?_⟩, fun p hp => h5 p (by simp only [List.mem_singleton] at hp; simp [hp])⟩
  · simp only [List.length_cons] at h2
    simp only [List.length_cons, List.length_nil]
    omega
  · obtain ⟨g, off, e, hg, hB⟩ := h4 (by simp)
    refine ⟨g, off, e, hg, fun j p hj => ?_⟩
    cases j with
    | zero => exact hB 0 p (by simpa using hj)
    | succ j => simp at hj
end Go.Proofs.YtlappkflnlbfcaaGreatDoor.Stk
end

section
/- The document's Copied, walked: a region in any order, with appends to literals. -/
namespace Go.Proofs.YtlappkflnlbfcaaGreatDoor.Stk
open Go.RowKit Row9
set_option maxRecDepth 100000
set_option maxHeartbeats 4000000
set_option linter.unusedVariables false
section
variable {α : Type}
/-- A row of the call's own, or an empty literal. -/
def EO (T : El α) (w : World) (B : Nat) (v : Value) (l : List α) : Prop := (∃ a, v = .slice (some a) 0 0 ∧ l = []) ∨ Own T w B v l
theorem EO.keep {T : El α} {w w' : World} {B : Nat} {v : Value} {l : List α} (h : EO T w B v l) (hb : Below w.heap.size w w') : EO T w' B v l := by
  rcases h with h | h
  · exact .inl h
  · exact .inr (own_keep h hb)
theorem EO.form {T : El α} {w : World} {B : Nat} {v : Value} {l : List α} (h : EO T w B v l) : ∃ A c, v = .slice A l.length c := by
  rcases h with ⟨a, rfl, rfl⟩ | h
  · exact ⟨some a, 0, rfl⟩
  · exact Own.form h
theorem EO.row {T : El α} {w : World} {B : Nat} {v : Value} {l : List α} (h : EO T w B v l) (hok : ∀ p ∈ l, T.ok w p) : Row T w v l := by
  rcases h with ⟨a, rfl, rfl⟩ | h
  · exact ⟨⟨_, 0, rfl, Nat.le_refl _, by omega, fun h => absurd rfl h⟩, by simp⟩
  · exact Own.row h hok
theorem EO.stay {T : El α} {w w' : World} {B : Nat} {v : Value} {l : List α} (h : EO T w B v l) (hk : ∀ k, B ≤ k → k < w.heap.size → w'.heap[k]? = w.heap[k]?) : EO T w' B v l := by
  rcases h with h | h
  · exact .inl h
  · exact .inr (own_stay h fun k e => hk k (World.ownsRow.lt h k e).1 (World.ownsRow.lt h k e).2)
end
/-- An empty literal. -/
def Lit0 (v : Value) (_ : World) : Prop := ∃ a, v = .slice (some a) 0 0
section
variable {ops : Array Oper} {w0 : World} {a0 : Act} {env : List (Tmp × Stab.Sp)} {o : Oper}
end
theorem Lit0.stays : Stab.Stays Lit0 := fun _ _ _ h _ => h
theorem EO.low {α : Type} {T : El α} {w : World} {B B' : Nat} {v : Value} {l : List α} (h : EO T w B v l) (hB : B' ≤ B) : EO T w B' v l := by
  rcases h with h | h
  · exact .inl h
  · exact .inr (own_low h hB)
end Go.Proofs.YtlappkflnlbfcaaGreatDoor.Stk
end

section
/- The document's Push, walked. -/
namespace Go.Proofs.YtlappkflnlbfcaaGreatDoor.Stk
open Go.RowKit Row9
set_option maxRecDepth 100000
set_option maxHeartbeats 4000000
set_option linter.unusedVariables false
/-- All blocks of another type stay. -/
def ChgT (t : TypeId) (w w' : World) : Prop := ∀ (k : Nat) (cur : Array Value) (t' : TypeId), w.heap[k]? = some (.cells cur t' (0, 0)) → t ≠ t' → w'.heap[k]? = some (.cells cur t' (0, 0))
theorem ChgT.of_below {t : TypeId} {w w' : World} (hb : Below w.heap.size w w') : ChgT t w w' := fun k cur t' hk hne => blk hk hb
theorem EO.other {α : Type} {T : El α} {w w' : World} {B : Nat} {v : Value} {l : List α} {t : TypeId} (h : EO T w B v l) (hc : ChgT t w w') (hne : t ≠ T.e) : EO T w' B v l := by
  rcases h with h | h
  · exact .inl h
  · refine .inr (own_stay h fun k hk => ?_)
    obtain ⟨cur, hcur⟩ := own_type h hk
    rw [hcur]
    exact hc k cur _ hcur hne
theorem box_int {W : World} {y : Nat} {A A' : Option Addr} {n c n' c' : Nat} {t : TypeId} (h : W.heap[y]? = some (.cells #[.slice A n c, .slice A' n' c'] t (0, 0))) (o : Nat) {k : IntKind} {x : Int} : W.cell? ⟨y, o, none⟩ ≠ some (.int k x) := by
  rw [(cells_at h o).1]
  rcases o with _ | _ | o <;> simp
/-- A store into a box of two slices leaves rows of bytes. -/
theorem rowB_box {W : World} {y i : Nat} {u v : Value} {l : List Int} {A A' : Option Addr} {n c n' c' : Nat} {t : TypeId} (h : Row elB W v l) (hy : W.heap[y]? = some (.cells #[.slice A n c, .slice A' n' c'] t (0, 0))) : Row elB (W.setCell ⟨y, i, none⟩ u) v l := by
  obtain ⟨⟨B, d, h1, h2, h3, h4⟩, h5⟩ := h
  refine ⟨⟨B, d, h1, h2, h3, fun h0 => ?_⟩, h5⟩
  obtain ⟨g, off, e, hg, hB⟩ := h4 h0
  have hgy : y ≠ g := by
    intro e
    subst e
    obtain ⟨p, hp⟩ : ∃ p, l[0]? = some p := by
      cases l with
      | nil => exact absurd rfl h0
      | cons p l => exact ⟨p, rfl⟩
    exact box_int hy _ (hB 0 p hp 0 _ rfl)
  refine ⟨g, off, e, by rw [set_size]; exact hg, fun j p hj i' u' hu => ?_⟩
  rw [World.cell?_setCell_other _ _ _ _ (by intro e; exact hgy (congrArg Addr.block e))]
  exact hB j p hj i' u' hu
theorem store2 {W : World} {r : Nat} {a0 b0 : Value} {t : TypeId} (h : W.heap[r]? = some (.cells #[a0, b0] t (0, 0))) (a b : Value) : ((W.setCell ⟨r, 0, none⟩ a).setCell ⟨r, 1, none⟩ b).heap[r]? = some (.cells #[a, b] t (0, 0)) := by
  rw [set_heap (set_heap h _)]
  rfl
/-- What the document's calls of a stack end with. -/
def ROp (r : Stk × Int) (w : World) (e : Ending) (w' : World) : Prop := (∃ P n c Q m d, e = .returned (.tuple #[.agg #[.slice P n c, .slice Q m d], .int .i64 r.2]) ∧ StIs elD w' (.agg #[.slice P n c, .slice Q m d]) r.1) ∧ Below w.heap.size w w'
end Go.Proofs.YtlappkflnlbfcaaGreatDoor.Stk
end

section
/- The document's Kill, walked. -/
namespace Go.Proofs.YtlappkflnlbfcaaGreatDoor.Stk
open Go.RowKit Row9
set_option maxRecDepth 100000
set_option maxHeartbeats 2000000
set_option linter.unusedVariables false
theorem EO.take {α : Type} {T : El α} {w : World} {B n c : Nat} {P : Option Addr} {l : List α} (h : EO T w B (.slice P n c) l) (k : Nat) (hk : k ≤ n) : EO T w B (.slice P k c) (l.take k) := by
  rcases h with ⟨a, e, rfl⟩ | h
  · injection e with e1 e2 e3
    subst e1 e2 e3
    obtain rfl : k = 0 := by omega
    exact .inl ⟨a, rfl, rfl⟩
  · obtain ⟨P', c', e⟩ := Own.form h
    injection e with _ e2 _
    exact .inr (Own.take h k (by omega))
end Go.Proofs.YtlappkflnlbfcaaGreatDoor.Stk
end
