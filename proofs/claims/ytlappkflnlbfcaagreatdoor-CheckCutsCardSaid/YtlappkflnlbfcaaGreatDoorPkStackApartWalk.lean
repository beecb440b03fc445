/- StackApartWalk. -/
import Derived.Test.YtlappkflnlbfcaaGreatDoorPkStkRKill
/- StackApart: what is made of a stack leaves the stack as it was: walked (gen_apart9.py). -/
namespace Go.Proofs.YtlappkflnlbfcaaGreatDoor.Stk
open Go.RowKit Row9
set_option maxRecDepth 100000
set_option maxHeartbeats 8000000
set_option linter.unusedVariables false
theorem box_ne {W : World} {y : Nat} {A A' : Option Addr} {n c n' c' : Nat} {t : TypeId} (h : W.heap[y]? = some (.cells #[.slice A n c, .slice A' n' c'] t (0, 0))) (o : Nat) {k : IntKind} {x : Int} : W.cell? ⟨y, o, none⟩ ≠ some (.int k x) := by
  rw [(cells_at h o).1]
  rcases o with _ | _ | o <;> simp
theorem row_box {α : Type} {T : El α} {W : World} {y i : Nat} {u v : Value} {l : List α} {A A' : Option Addr} {n c n' c' : Nat} {t : TypeId} (hT : ∀ a, ∃ k x, (T.enc a)[0]? = some (.int k x)) (hok : ∀ p, T.ok W p → T.ok (W.setCell ⟨y, i, none⟩ u) p) (h : Row T W v l)
    (hy : W.heap[y]? = some (.cells #[.slice A n c, .slice A' n' c'] t (0, 0))) : Row T (W.setCell ⟨y, i, none⟩ u) v l := by
  obtain ⟨⟨B, d, h1, h2, h3, h4⟩, h5⟩ := h
  refine ⟨⟨B, d, h1, h2, h3, fun h0 => ?_⟩, fun p hp => hok p (h5 p hp)⟩
  obtain ⟨g, off, e, hg, hB⟩ := h4 h0
  have hgy : y ≠ g := by
    intro e
    subst e
    obtain ⟨p, hp⟩ : ∃ p, l[0]? = some p := by
      cases l with
      | nil => exact absurd rfl h0
      | cons p l => exact ⟨p, rfl⟩
    obtain ⟨k, x, hx⟩ := hT p
    exact box_ne hy _ (hB 0 p hp 0 _ hx)
  refine ⟨g, off, e, by rw [set_size]; exact hg, fun j p hj i' u' hu => ?_⟩
  rw [World.cell?_setCell_other _ _ _ _ (by intro e; exact hgy (congrArg Addr.block e))]
  exact hB j p hj i' u' hu
theorem StIs.set_box {W : World} {y i : Nat} {u v : Value} {s : Stk} {A A' : Option Addr} {n c n' c' : Nat} {t : TypeId} (h : StIs elD W v s) (hy : W.heap[y]? = some (.cells #[.slice A n c, .slice A' n' c'] t (0, 0))) : StIs elD (W.setCell ⟨y, i, none⟩ u) v s := by
  obtain ⟨a, b, l, h1, h2, h3, h4⟩ := h
  have hb : ∀ {v : Value} {l : List Int}, Row elB W v l → Row elB (W.setCell ⟨y, i, none⟩ u) v l := fun h => row_box (T := elB) (fun a => ⟨.u8, a, rfl⟩) (fun p hp => hp) h hy
  exact ⟨a, b, l, h1, hb h2, row_box (T := elD) (fun a => ⟨.i64, a.1.op, rfl⟩) (fun p hp => ⟨hb hp.1, hp.2⟩) h3 hy, h4⟩
end Go.Proofs.YtlappkflnlbfcaaGreatDoor.Stk
