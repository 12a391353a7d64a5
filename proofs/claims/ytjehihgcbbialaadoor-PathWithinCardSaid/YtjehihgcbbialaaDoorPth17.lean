/- The document's own Right. -/
import Derived.Test.YtjehihgcbbialaaDoorPth16
namespace Go.Proofs.YtjehihgcbbialaaDoor
open Go.RowKit
set_option linter.unusedVariables false
set_option maxRecDepth 100000 in
set_option maxHeartbeats 1600000 in
theorem refRight_any (s : ByteArray) (w : World) : Calls Tryd.prog 25 #[.string s] w fun e w' => e = .returned (.bool (namesOf (sb s)).isSome) ∧ Same w w' := by
  have HSP := Lib.hid (fun w => refSplit_any s w)
  unfold RSplit at HSP
  generalize (nl (sb s)).length = n at HSP
  generalize (namesOf (sb s)).isSome = b at HSP ⊢
  go_enter Tryd.func25, Tryd.ntmps25
  go_wp2_with fail
  ((with_reducible refine (HSP.out _).mono ?_); rintro e w1 ⟨ao, c, rfl, hst, hcc, hkk⟩)
  have HK := Lib.hid hkk
  clear hst hkk hcc
  go_wp2
  go_ret
  exact ⟨rfl, HK.out⟩
end Go.Proofs.YtjehihgcbbialaaDoor
