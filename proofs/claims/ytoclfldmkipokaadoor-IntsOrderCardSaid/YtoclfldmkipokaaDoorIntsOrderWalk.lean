/- IntsOrder walked, both widths. -/
import Derived.Test.YtoclfldmkipokaaDoorIntsOrder32
import Derived.Test.YtoclfldmkipokaaDoorIntsOrder64
namespace Go.Proofs.YtoclfldmkipokaaDoor.Ints
open Go.RowKit
set_option maxRecDepth 100000
set_option maxHeartbeats 400000

theorem order_any (a b : Int) (wide : Bool) (wa : (Lit.int .u64 a).wf = true) (wb : (Lit.int .u64 b).wf = true) (w : World) (hT : Tab w) :
    Calls Tryd.prog 9 #[.int .u64 a, .int .u64 b, .bool wide] w fun e w' => e = .returned (.bool true) ∧ Below w.heap.size w w' := by
  have ha := u64_of wa
  have hb := u64_of wb
  have h0 : u64R 0 := ⟨by omega, by omega⟩
  cases wide
  · have ht : isT 127 := .inl rfl
    exact order_32 a b _ _ _ _ _ _ _ _ _ _ _ w hT (five ht (loT_in ht ha) (loT_in ht hb)) (tw_c (op := 70) (l := 70) a b _ (by decide) (by decide) (by decide) (by omega) ha hb rfl) (tw_c (op := 71) (l := 71) a b _ (by decide) (by decide) (by decide) (by omega) ha hb rfl) (tw_c (op := 72) (l := 72) a b _ (by decide) (by decide) (by decide) (by omega) ha hb rfl) (tw_c (op := 74) (l := 74) a b _ (by decide) (by decide) (by decide) (by omega) ha hb rfl) (tw_c (op := 76) (l := 76) a b _ (by decide) (by decide) (by decide) (by omega) ha hb rfl) (tw_c (op := 78) (l := 78) a b _ (by decide) (by decide) (by decide) (by omega) ha hb rfl) (tw_c (op := 73) (l := 73) a b _ (by decide) (by decide) (by decide) (by omega) ha hb rfl) (tw_c (op := 75) (l := 75) a b _ (by decide) (by decide) (by decide) (by omega) ha hb rfl) (tw_c (op := 77) (l := 77) a b _ (by decide) (by decide) (by decide) (by omega) ha hb rfl) (tw_c (op := 79) (l := 79) a b _ (by decide) (by decide) (by decide) (by omega) ha hb rfl)
      (on_c (op := 69) (t := 127) a (by decide) (by decide) (by decide) ha) (tw_c (op := 70) (t := 127) (l := 70) a 0 _ (by decide) (by decide) (by decide) (by omega) ha h0 rfl)
  · have ht : isT 126 := .inr rfl
    exact order_64 a b _ _ _ _ _ _ _ _ _ _ _ w hT (five ht (loT_in ht ha) (loT_in ht hb)) (tw_c (op := 81) (l := 70) a b _ (by decide) (by decide) (by decide) (by omega) ha hb rfl) (tw_c (op := 82) (l := 71) a b _ (by decide) (by decide) (by decide) (by omega) ha hb rfl) (tw_c (op := 83) (l := 72) a b _ (by decide) (by decide) (by decide) (by omega) ha hb rfl) (tw_c (op := 85) (l := 74) a b _ (by decide) (by decide) (by decide) (by omega) ha hb rfl) (tw_c (op := 87) (l := 76) a b _ (by decide) (by decide) (by decide) (by omega) ha hb rfl) (tw_c (op := 89) (l := 78) a b _ (by decide) (by decide) (by decide) (by omega) ha hb rfl) (tw_c (op := 84) (l := 73) a b _ (by decide) (by decide) (by decide) (by omega) ha hb rfl) (tw_c (op := 86) (l := 75) a b _ (by decide) (by decide) (by decide) (by omega) ha hb rfl) (tw_c (op := 88) (l := 77) a b _ (by decide) (by decide) (by decide) (by omega) ha hb rfl) (tw_c (op := 90) (l := 79) a b _ (by decide) (by decide) (by decide) (by omega) ha hb rfl)
      (on_c (op := 80) (t := 126) a (by decide) (by decide) (by decide) ha) (tw_c (op := 81) (t := 126) (l := 70) a 0 _ (by decide) (by decide) (by decide) (by omega) ha h0 rfl)
end Go.Proofs.YtoclfldmkipokaaDoor.Ints
