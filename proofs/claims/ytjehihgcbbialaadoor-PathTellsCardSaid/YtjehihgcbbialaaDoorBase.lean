/- The program, the walks' words, and the texts that name no program. -/
import Derived.Test.YtjehihgcbbialaaDoorProg
import Derived.Test.YtjehihgcbbialaaDoorBytes
import Derived.Test.YtjehihgcbbialaaDoorRow
import Derived.Test.YtjehihgcbbialaaDoorStrs
import Derived.Tactics
import Derived.Tactics2
import Derived.WalkKit
import Derived.WalkSpells
import Derived.WalkLawsBesides
import Derived.StillTactics
import Derived.OwnWalk
import Derived.Laws.Pointers
import Derived.Deep.RegionHeld3
import Derived.Deep.RegionLaw
import Derived.Deep.AppendLies
import Derived.Deep.QuietTactic
import Derived.BigQuiet
import Derived.Outline
import Derived.Lib.Hide
import Derived.KernelRfl
namespace Go.Proofs.YtjehihgcbbialaaDoor
theorem Tryd.base : True := trivial
end Go.Proofs.YtjehihgcbbialaaDoor
