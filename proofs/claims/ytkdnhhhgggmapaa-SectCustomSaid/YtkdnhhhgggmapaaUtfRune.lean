/- May a text have a number, by the program's word and the library's; the library's bytes of a number, laid behind one's own. -/
import Derived.Test.YtkdnhhhgggmapaaUtfFrom
import Derived.Lib.OthersKept
namespace Go.Proofs.Ytkdnhhhgggmapaa.Utf
open Go.RowKit
set_option maxRecDepth 100000
set_option maxHeartbeats 1000000

theorem newB_own {w : World} {B : Nat} {v : Value} {done : List Int} (h : OwnB w B v done) (l : List Int) : OwnB (newB w l) B v done := World.ownsRow.alloc h _
/-- 'append(s, x...)' of new bytes onto bytes of the call's own. -/
theorem wp_fresh {ops : Array Oper} {rest : List Oper} {o : Oper} {a : Act} {Q : Exit → Act → World → Prop} (w : World) (hgd : o.guard = none) (s x : Operand)
    (ho : o.op = .call { callee := .builtin .append, args := #[s, x], argTypes := #[22, 22] }) (B : Nat) (v : Value) (done : List Int) (y : List Int) (hs : a.eval s = v) (hown : OwnB w B v done)
    (hx : a.eval x = .slice (some ⟨w.heap.size, 0, none⟩) y.length y.length) (hlen : done.length + y.length ≤ 10000000) (hB : B ≤ w.heap.size)
    (h : ∀ v' w', OwnB w' B v' (done ++ y) → Below B w w' → (newB w y).grownBy w' v.ownBlock → wpList Try.prog ops Q rest (a.put o.dst v') w') : wpList Try.prog ops Q (o :: rest) a (newB w y) := by
  obtain ⟨i0, hi, hz0, hz1, hz2⟩ := info_parts byte_info
  have hown' := newB_own hown y
  refine wpList_append_own _ hgd s x 22 ho B 5 i0 (.int .u8 0) 1 1 Try.underlying22 hi hz0 hz1 hz2 rfl (by decide) v _ _ hs hown' ⟨w.heap.size, 0, none⟩ y.length y.length (vb y) hx (by rw [vb_length, Nat.mul_one]) (newB_byt w y).cells (vb_oneCell y) (by simp only [maxLen]; omega) (by omega) (by simp [newB]; omega) ?_
  intro v' w' ho' hg hn
  refine h v' w' ?_ (((Below.refl _ _).alloc hB _).grown hg (by simp; omega) hown'.block) hg
  have ho2 : w'.ownsRow B 5 1 v' (done ++ y).length (vb (done ++ y)) := by simpa [vb] using ho'
  exact ho2
/-- How a number's bytes are laid behind others. -/
def ApEnds (B : Nat) (l : List Int) (w : World) (e : Ending) (w' : World) : Prop := ∃ v', e = .returned v' ∧ OwnB w' B v' l ∧ Below B w w'
end Go.Proofs.Ytkdnhhhgggmapaa.Utf
