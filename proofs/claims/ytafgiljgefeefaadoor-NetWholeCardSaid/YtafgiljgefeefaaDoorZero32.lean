/- The zero of 32 bytes. -/
import Derived.Test.YtafgiljgefeefaaDoorBase
namespace Go.Proofs.YtafgiljgefeefaaDoor
open Go.RowKit
def z32 : List Value := u8s (List.replicate 32 0)
theorem Tryd.zero32 (w : World) : (zeroValue 32).run Tryd.prog w = .ok (.agg z32.toArray) w := by kernel_rfl

end Go.Proofs.YtafgiljgefeefaaDoor
