/- What (*pack.Pen).Uint does: refused with ErrArg, or so many bytes more. -/
import Derived.Test.YtjehihgcbbialaaDoorProg
import Derived.Test.YtjehihgcbbialaaDoorBytes
import Derived.Tactics
import Derived.Tactics2
import Derived.WalkKit
import Derived.WalkSpells
import Derived.WalkLawsBesides
import Derived.StillTactics
import Derived.OwnWalk
import Derived.Laws.Pointers
import Derived.Deep.RegionHeld3
import Derived.Deep.RegionLaw
import Derived.Deep.AppendLies
import Derived.Outline
import Derived.Lib.Hide
import Derived.KernelRfl
namespace Go.Proofs.YtjehihgcbbialaaDoor
open Go.RowKit

theorem Tryd.info5 : (Tryd.prog.info? 5).map (fun i => (i.zero, i.size, i.bytes)) = some (some (.int .u8 0), 1, 1) := by kernel_rfl

theorem byte_at (n k : Nat) : IntKind.u8.wrap ((n : Int) / 2 ^ (8 * (k : Int)).toNat) = ((UInt8.ofNat (n / 256 ^ k)).toNat : Int) := by
  have e : (8 * (k : Int)).toNat = 8 * k := by omega
  have h2 : ((n : Int) / 2 ^ (8 * k)) = ((n / 2 ^ (8 * k) : Nat) : Int) := by simp
  rw [e, h2, Nat.pow_mul]
  simp [IntKind.wrap, IntKind.signed, IntKind.bits, UInt8.toNat_ofNat']
theorem quot_zero (n size : Nat) (hn : n < 256 ^ size) : ((n : Int) / 2 ^ (8 * size) != 0) = false := by
  have h : n / 2 ^ (8 * size) = 0 := by
    rw [Nat.pow_mul]
    exact Nat.div_eq_of_lt hn
  have h2 : ((n : Int) / 2 ^ (8 * size)) = ((n / 2 ^ (8 * size) : Nat) : Int) := by simp
  rw [h2, h]; rfl

end Go.Proofs.YtjehihgcbbialaaDoor
