/- The program, the walks' words, and the texts that name no program. -/
import Derived.Test.YtafgiljgefeefaaDoorProg
import Derived.Test.YtafgiljgefeefaaDoorBytes
import Derived.Test.YtafgiljgefeefaaDoorRow
import Derived.Test.YtafgiljgefeefaaDoorStrs
import Derived.Tactics
import Derived.Tactics2
import Derived.WalkKit
import Derived.WalkSpells
import Derived.WalkLawsBesides
import Derived.StillTactics
import Derived.OwnWalk
import Derived.Laws.Pointers
import Derived.Deep.RegionHeld3
import Derived.Deep.RegionLaw
import Derived.Deep.AppendLies
import Derived.Deep.QuietTactic
import Derived.BigQuiet
import Derived.Outline
import Derived.Lib.Hide
import Derived.KernelRfl
namespace Go.Proofs.YtafgiljgefeefaaDoor
theorem Tryd.base : True := trivial
end Go.Proofs.YtafgiljgefeefaaDoor
