/- A block of cells as a list: Whole0, with the eye's texts. No program is named here. -/
import Derived.Test.YtafgiljgefeefaaDoorEye4
import Derived.Test.YtafgiljgefeefaaDoorWhole0

