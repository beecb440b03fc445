/- The function that gathers a number's digits, walked for a number that may be below 0. -/
import Derived.Test.YtnminpbnlcgblaaLebRead
namespace Go.Proofs.Ytnminpbnlcgblaa.Leb
open Go.RowKit

end Go.Proofs.Ytnminpbnlcgblaa.Leb
