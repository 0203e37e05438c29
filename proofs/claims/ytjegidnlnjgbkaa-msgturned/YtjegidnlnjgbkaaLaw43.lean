/-
  The walk of the law SumFinds.
-/
import Derived.Test.YtjegidnlnjgbkaaWalksU1
import Derived.Test.YtjegidnlnjgbkaaTrn
namespace Go.Proofs.Ytjegidnlnjgbkaa
open Go.RowKit

end Go.Proofs.Ytjegidnlnjgbkaa
