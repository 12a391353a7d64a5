/- The program, the walks' words, and the texts that name no program. -/
import Derived.Test.YtcbkopjklbiheaaDoorProg
import Derived.Test.YtcbkopjklbiheaaDoorBytes
import Derived.Test.YtcbkopjklbiheaaDoorRow
import Derived.Test.YtcbkopjklbiheaaDoorStrs
import Derived.Tactics
import Derived.Tactics2
import Derived.WalkKit
import Derived.WalkSpells
import Derived.WalkLawsBesides
import Derived.StillTactics
import Derived.OwnWalk
import Derived.Laws.Pointers
import Derived.Deep.RegionHeld3
import Derived.Deep.RegionLaw
import Derived.Deep.AppendLies
import Derived.Deep.QuietTactic
import Derived.BigQuiet
import Derived.Outline
import Derived.Lib.Hide
import Derived.KernelRfl
namespace Go.Proofs.YtcbkopjklbiheaaDoor
theorem Tryd.base : True := trivial
end Go.Proofs.YtcbkopjklbiheaaDoor
