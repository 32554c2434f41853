/- Unfolding: what the specification answers where it can't be. -/
import Derived.Test.YtpeocbhnnpppjaaUnf
namespace Go.Proofs.Ytpeocbhnnpppjaa
open Go.RowKit

end Go.Proofs.Ytpeocbhnnpppjaa
