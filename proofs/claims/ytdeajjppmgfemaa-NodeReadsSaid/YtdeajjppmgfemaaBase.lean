/- The program, the walks' words, and the texts that name no program. -/
import Derived.Test.YtdeajjppmgfemaaProg
import Derived.Test.YtdeajjppmgfemaaBytes
import Derived.Test.YtdeajjppmgfemaaRow
import Derived.Test.YtdeajjppmgfemaaStrs
import Derived.Tactics
import Derived.Tactics2
import Derived.WalkKit
import Derived.WalkSpells
import Derived.WalkLawsBesides
import Derived.StillTactics
import Derived.OwnWalk
import Derived.Laws.Pointers
import Derived.Deep.RegionHeld3
import Derived.Deep.RegionLaw
import Derived.Deep.AppendLies
import Derived.Deep.QuietTactic
import Derived.BigQuiet
import Derived.Outline
import Derived.Lib.Hide
import Derived.KernelRfl
namespace Go.Proofs.Ytdeajjppmgfemaa
theorem Try.base : True := trivial
end Go.Proofs.Ytdeajjppmgfemaa
