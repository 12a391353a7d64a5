/- A block of cells as a list: Whole0, with the eye's texts. No program is named here. -/
import Derived.Test.YtcbkopjklbiheaaDoorEye4
import Derived.Test.YtcbkopjklbiheaaDoorWhole0

