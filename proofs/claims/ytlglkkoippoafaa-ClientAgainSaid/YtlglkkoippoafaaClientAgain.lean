/- ClientAgain: for every input the law returns true, and each argument reads behind the call as it read before; no condition of ours. -/
import Derived.Test.YtlglkkoippoafaaRows
import Derived.Test.YtlglkkoippoafaaFrame
import Derived.Test.YtlglkkoippoafaaCl9
import Derived.Test.YtlglkkoippoafaaOpen10
namespace Go.Proofs.Ytlglkkoippoafaa.clientAgain
open Go.ChangeShapes Go.WideShapes Go.ChangeAt Go.RowKit
set_option linter.unusedVariables false

theorem own : ownKnob Try.prog.godebug = none := by kernel_rfl
theorem laid : laidOutB Try.prog = true := by kernel_rfl
theorem open_op {H : Type} {enc : TypeId × Value → H} {W : World} {base : Nat} {v : Value} {d : DataW H} {ps : List MemPlace} (hok : Value.okWide Try.prog W .any base 32 v) (h : DataW.Trod enc Try.prog W 0 (fun _ => true) true 32 v d ps) :
    ∃ cs k off n p t ao cap ds, v = .agg cs.toArray ∧ OpCells W cs k off n p t ao cap ds := by
  obtain ⟨cs, rfl, _⟩ := okWide_struct Try.underlying32 hok
  obtain ⟨fuel, hf⟩ := h
  obtain ⟨k, off, n, p, t, ao, cap, ds, ho⟩ := open_op_trod hf
  exact ⟨_, k, off, n, p, t, ao, cap, ds, by simp [Value.cells], ho⟩

set_option maxRecDepth 100000 in
theorem lifted (os : Os) (started : os.Started) (H : Type) (enc : TypeId × Value → H) :
    ReturnsInHanded {} Try.checked os 5 .any (Rows.clientAgainSpec.pre6 enc Try.prog Try.f5 Rows.clientAgainRow.domain false) (Rows.clientAgainSpec.post enc Try.prog Try.f5 false true false false) := by
  refine returnsInHanded_of_change (C := Try.checked) own started (by kernel_rfl) Try.func5
    (ChangeSpec.witness6 (enc := enc) (C := Try.checked) false ⟨#[], #[.agg #[.int .i64 0, .string ByteArray.empty, .string ByteArray.empty, .int .i64 0, .int .i64 0, .slice none 0 0], .slice none 0 0, .int .i64 0], []⟩ 8 (by kernel_rfl) (by kernel_rfl) (by kernel_rfl) (by kernel_rfl)) ?_
  intro W base args ds gs before hval0 hW hcnd _
  have hval : ∀ (j : Nat) t v, Try.f5.params[j]? = some t → args[j]? = some v → Value.okWide Try.prog W .any base t v := hval0
  have hW' := hW
  obtain ⟨p, q, hA0, hV, rfl, hfz, hnd⟩ := hW
  have hA : DataW.TrodAll enc Try.prog W 0 (fun _ => true) true Try.f5.params.toList args.toList ds p := hA0
  rw [Try.params5] at hA hval
  obtain ⟨v0, vs0, d0, ds0, p0, q0, hargs, rfl, rfl, h0, r0⟩ := trodAll_cons hA
  obtain ⟨v1, vs1, d1, ds1, p1, q1, rfl, rfl, rfl, h1, r1⟩ := trodAll_cons r0
  obtain ⟨v2, vs2, d2, ds2, p2, q2, rfl, rfl, rfl, h2, r2⟩ := trodAll_cons r1
  obtain ⟨rfl, rfl, rfl⟩ := trodAll_nil r2
  obtain rfl : args = #[v0, v1, v2] := by cases args; simp_all
  obtain ⟨rfl, rfl⟩ := trodVars_none hV
  clear hA0 hval0
  suffices hc : Calls Try.prog 5 #[v0, v1, v2] W fun e W' => e = .returned (.bool true) ∧ Below W.heap.size W W' by
    refine hc.mono fun e W' ⟨he, hg⟩ => ?_
    subst he
    exact ⟨_, rfl, post_law laid (by kernel_rfl) rfl Try.underlying4 rfl hW' hg rfl rfl rfl⟩
  obtain ⟨cs, k, off, n, p, t, ao, cap, ds, rfl, rfl, hx, hsx, hxc, _⟩ := open_op (hval 0 32 v0 rfl rfl) h0
  obtain ⟨mo, mc, ms, rfl, hm, _, _⟩ := open_msgs (hval 1 55 v1 rfl rfl) h1
  obtain ⟨nodes, rfl, rfl, rfl, w2⟩ := open_int Try.underlying3 (hval 2 3 v2 rfl rfl) h2
  exact (again_any k off n p t ao cap ds mo mc ms nodes W ⟨ao, cap, rfl, hx, hsx, hxc⟩ hm).mono fun e W' ⟨he, hg⟩ => ⟨he, hg.below⟩

theorem over : Rows.clientAgainRow.holds Try.pinned (OpenSpec.ofChange Rows.clientAgainSpec) :=
  OpenClaim.holds_of_wide 5 Try.f5 rfl rfl rfl rfl rfl rfl rfl ⟨rfl, rfl, rfl, rfl, rfl⟩ rfl rfl rfl rfl rfl (by kernel_rfl) Try.func5 (by kernel_rfl)
    (of_decide_eq_true (by kernel_rfl)) (by unfold Func.isWrapper; first | (rw [if_pos (by decide +kernel)]; kernel_rfl) | (rw [if_neg (by decide +kernel)]; exact ⟨rfl, rfl⟩))
    (fun os started H enc _ => lifted os started H enc)

theorem clientAgain_proved : Rows.ClientAgainSaid := over
end Go.Proofs.Ytlglkkoippoafaa.clientAgain
