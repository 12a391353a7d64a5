/- A block of cells as a list: Whole0, with the eye's texts. No program is named here. -/
import Derived.Test.YtlglkkoippoafaaEye4
import Derived.Test.YtlglkkoippoafaaWhole0

