/- Masks, as runs have them (Mk8 in the seats that have runs too: written to the place of Mk8). -/
import Derived.Test.YtipkfaajngabmaaMsk
namespace Go.Proofs.Ytipkfaajngabmaa

end Go.Proofs.Ytipkfaajngabmaa
