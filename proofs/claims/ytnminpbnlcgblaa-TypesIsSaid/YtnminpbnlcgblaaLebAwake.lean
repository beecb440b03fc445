/- The document's two examples, as every statement of layer 1 asks them first: the program lays them as the document says. -/
import Derived.Test.YtnminpbnlcgblaaLebUS
namespace Go.Proofs.Ytnminpbnlcgblaa.Leb
open Go.RowKit

theorem uB_example : uB 624485 = [229, 142, 38] := by
  rw [uB_great (by omega), uB_great (by omega), uB_small (by omega)]; rfl
theorem sB_example : sB (-123456) = [192, 187, 120] := by
  rw [sB_great (by omega), sB_great (by omega), sB_small (by omega)]; rfl

end Go.Proofs.Ytnminpbnlcgblaa.Leb
