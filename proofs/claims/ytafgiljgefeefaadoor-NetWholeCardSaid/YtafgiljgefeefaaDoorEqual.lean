/- What bytes.Equal tells. -/
import Derived.Test.YtafgiljgefeefaaDoorPack3
import Derived.Test.YtafgiljgefeefaaDoorStrs
namespace Go.Proofs.YtafgiljgefeefaaDoor
open Go.RowKit
set_option linter.unusedVariables false

set_option maxRecDepth 100000 in
set_option maxHeartbeats 800000 in
theorem bytesEqual_any (ao bo : Option Addr) (a b : List UInt8) (c d : Nat) (w : World) (ha : Bytes w (.slice ao a.length c) a) (hb : Bytes w (.slice bo b.length d) b)
    (hsa : ∀ x, ao = some x → a ≠ [] → x.spot = none) (hsb : ∀ x, bo = some x → b ≠ [] → x.spot = none) :
    Calls Tryd.prog 47 #[.slice ao a.length c, .slice bo b.length d] w fun e w' => e = .returned (.bool (decide (a = b))) ∧ w' = w := by
  have k1 : (convert 33 9 (.slice ao a.length c)).run Tryd.prog w = .ok (.string ⟨a.toArray⟩) w := run_string' ha hsa _ _ _ Tryd.underlying33 Tryd.underlying5 Tryd.underlying9
  have k2 : (convert 33 9 (.slice bo b.length d)).run Tryd.prog w = .ok (.string ⟨b.toArray⟩) w := run_string' hb hsb _ _ _ Tryd.underlying33 Tryd.underlying5 Tryd.underlying9
  go_enter Tryd.func47, Tryd.ntmps47
  go_wp2
  go_ret
  refine ⟨?_, rfl⟩
  rw [show (a == b) = decide (a = b) from by rw [Bool.eq_iff_iff]; simp]
  rfl
end Go.Proofs.YtafgiljgefeefaaDoor
