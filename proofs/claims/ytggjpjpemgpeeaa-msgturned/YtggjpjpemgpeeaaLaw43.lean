/-
  The walk of the law SumFinds.
-/
import Derived.Test.YtggjpjpemgpeeaaWalksU1
import Derived.Test.YtggjpjpemgpeeaaTrn
namespace Go.Proofs.Ytggjpjpemgpeeaa
open Go.RowKit

end Go.Proofs.Ytggjpjpemgpeeaa
