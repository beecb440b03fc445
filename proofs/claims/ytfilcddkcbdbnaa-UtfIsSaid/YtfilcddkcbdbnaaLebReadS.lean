/- The function that gathers a number's digits, walked for a number that may be below 0. -/
import Derived.Test.YtfilcddkcbdbnaaLebRead
namespace Go.Proofs.Ytfilcddkcbdbnaa.Leb
open Go.RowKit

end Go.Proofs.Ytfilcddkcbdbnaa.Leb
