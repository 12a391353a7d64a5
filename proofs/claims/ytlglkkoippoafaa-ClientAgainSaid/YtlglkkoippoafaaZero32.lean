/- The zero of 32 bytes. -/
import Derived.Test.YtlglkkoippoafaaBase
namespace Go.Proofs.Ytlglkkoippoafaa
open Go.RowKit
def z32 : List Value := u8s (List.replicate 32 0)
theorem Try.zero32 (w : World) : (zeroValue 36).run Try.prog w = .ok (.agg z32.toArray) w := by kernel_rfl

end Go.Proofs.Ytlglkkoippoafaa
