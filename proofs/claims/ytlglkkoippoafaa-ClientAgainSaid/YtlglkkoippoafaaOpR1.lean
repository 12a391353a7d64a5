/- What oper's reader reads: a number, a text. -/
import Derived.Test.YtlglkkoippoafaaPenW
import Derived.Test.YtlglkkoippoafaaRd
import Derived.Test.YtlglkkoippoafaaOp2
import Derived.Test.YtlglkkoippoafaaPlan5
namespace Go.Proofs.Ytlglkkoippoafaa
open Go.RowKit
set_option linter.unusedVariables false

theorem run_reads {w : World} {v : Value} {b : List UInt8} (h : Reads w v b) : (convert 30 9 v).run Try.prog w = .ok (.string ⟨b.toArray⟩) w := by
  obtain ⟨ao, c, rfl, h1, h2, _⟩ := h
  exact run_string' h1 h2 _ _ _ Try.underlying30 Try.underlying5 Try.underlying9


end Go.Proofs.Ytlglkkoippoafaa
