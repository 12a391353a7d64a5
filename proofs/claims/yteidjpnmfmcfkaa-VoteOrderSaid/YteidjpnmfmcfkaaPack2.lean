/- What (*pack.Pen).Raw, Text do, and slices.Clone, (*pack.Pen).Data. -/
import Derived.Test.YteidjpnmfmcfkaaPack1
import Derived.Test.YteidjpnmfmcfkaaApp
namespace Go.Proofs.Yteidjpnmfmcfkaa
open Go.RowKit

end Go.Proofs.Yteidjpnmfmcfkaa
