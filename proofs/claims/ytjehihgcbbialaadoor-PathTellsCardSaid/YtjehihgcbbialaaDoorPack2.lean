/- What (*pack.Pen).Raw, Text do, and slices.Clone, (*pack.Pen).Data. -/
import Derived.Test.YtjehihgcbbialaaDoorPack1
import Derived.Test.YtjehihgcbbialaaDoorApp
namespace Go.Proofs.YtjehihgcbbialaaDoor
open Go.RowKit

end Go.Proofs.YtjehihgcbbialaaDoor
