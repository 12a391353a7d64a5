/- The shelf's contracts laid at this program: numbers by laysayg.sh. -/
import Derived.Test.YtafgiljgefeefaaDoorProg
import Derived.Shelf.SlLaysE
import Derived.Shelf.SlicesE.Delete
namespace Go.Proofs.YtafgiljgefeefaaDoor
open Go.Shelf
def laysDelete_ren : Go.Shelf.Ren := ⟨fun | 45 => 25 | n => n, fun | 22 => 43 | 23 => 33 | 3 => 3 | 4 => 4 | 0 => 0 | n => n, fun | n => n⟩

theorem laysDelete : Go.Proofs.SlLaysE.n45 Tryd.prog laysDelete_ren where
  mixed := by kernel_rfl
  f45 := ⟨"slices.Delete[[][]byte,[]byte]", by decide, Tryd.func25.trans (congrArg some (by kernel_rfl))⟩
  t0 := Tryd.underlying0
  a0 := Tryd.isAgg0
  z0 := Tryd.sizeOf0
  v0 := Tryd.zeroValue0
  t3 := Tryd.underlying3
  a3 := Tryd.isAgg3
  z3 := Tryd.sizeOf3
  v3 := Tryd.zeroValue3
  t4 := Tryd.underlying4
  a4 := Tryd.isAgg4
  z4 := Tryd.sizeOf4
  v4 := Tryd.zeroValue4
  t22 := Tryd.underlying43
  a22 := Tryd.isAgg43
  z22 := Tryd.sizeOf43
  v22 := Tryd.zeroValue43
  a23 := Tryd.isAgg33
  z23 := Tryd.sizeOf33
end Go.Proofs.YtafgiljgefeefaaDoor
