/- OperAnswers: for every input the law returns true, and each argument reads behind the call as it read before; no condition of ours. -/
import Derived.Test.YtickphkeeflbbaaRows
import Derived.Test.YtickphkeeflbbaaFrame
import Derived.Test.YtickphkeeflbbaaWr10a
import Derived.Test.YtickphkeeflbbaaOpen10
namespace Go.Proofs.Ytickphkeeflbbaa.operAnswers
open Go.ChangeShapes Go.WideShapes Go.ChangeAt Go.RowKit
set_option linter.unusedVariables false

theorem own : ownKnob Try.prog.godebug = none := by kernel_rfl
theorem laid : laidOutB Try.prog = true := by kernel_rfl
theorem open_ans {H : Type} {enc : TypeId × Value → H} {W : World} {base : Nat} {v : Value} {d : DataW H} {ps : List MemPlace} (hok : Value.okWide Try.prog W .any base 41 v) (h : DataW.Trod enc Try.prog W 0 (fun _ => true) true 41 v d ps) :
    ∃ cs c n ao no cap ncap ds ss, v = .agg cs.toArray ∧ AnsCells W cs c n ao no cap ncap ds ss := by
  obtain ⟨cs, rfl, _⟩ := okWide_struct Try.underlying41 hok
  obtain ⟨fuel, hf⟩ := h
  obtain ⟨c, n, ao, no, cap, ncap, ds, ss, ho⟩ := open_ans_trod hf
  exact ⟨_, c, n, ao, no, cap, ncap, ds, ss, by simp [Value.cells], ho⟩
theorem cells5 : Try.prog.cellsOf 5 = 1 := by kernel_rfl

set_option maxRecDepth 100000 in
theorem lifted (os : Os) (started : os.Started) (H : Type) (enc : TypeId × Value → H) :
    ReturnsInHanded {} Try.checked os 5 .any (Rows.operAnswersSpec.pre6 enc Try.prog Try.f5 Rows.operAnswersRow.domain false) (Rows.operAnswersSpec.post enc Try.prog Try.f5 false true false false) := by
  refine returnsInHanded_of_change (C := Try.checked) own started (by kernel_rfl) Try.func5
    (ChangeSpec.witness6 (enc := enc) (C := Try.checked) false ⟨#[], #[.agg #[.int .i64 0, .int .i64 0, .slice none 0 0, .slice none 0 0], .slice none 0 0], []⟩ 8 (by kernel_rfl) (by kernel_rfl) (by kernel_rfl) (by kernel_rfl)) ?_
  intro W base args ds gs before hval0 hW hcnd _
  have hval : ∀ (j : Nat) t v, Try.f5.params[j]? = some t → args[j]? = some v → Value.okWide Try.prog W .any base t v := hval0
  have hW' := hW
  obtain ⟨p, q, hA0, hV, rfl, hfz, hnd⟩ := hW
  have hA : DataW.TrodAll enc Try.prog W 0 (fun _ => true) true Try.f5.params.toList args.toList ds p := hA0
  rw [Try.params5] at hA hval
  obtain ⟨v0, vs0, d0, ds0, p0, q0, hargs, rfl, rfl, h0, r0⟩ := trodAll_cons hA
  obtain ⟨v1, vs1, d1, ds1, p1, q1, rfl, rfl, rfl, h1, r1⟩ := trodAll_cons r0
  obtain ⟨rfl, rfl, rfl⟩ := trodAll_nil r1
  obtain rfl : args = #[v0, v1] := by cases args; simp_all
  obtain ⟨rfl, rfl⟩ := trodVars_none hV
  clear hA0 hval0
  suffices hc : Calls Try.prog 5 #[v0, v1] W fun e W' => e = .returned (.bool true) ∧ Below W.heap.size W W' by
    refine hc.mono fun e W' ⟨he, hg⟩ => ?_
    subst he
    exact ⟨_, rfl, post_law laid (by kernel_rfl) rfl Try.underlying4 rfl hW' hg rfl rfl rfl⟩
  obtain ⟨cs, c, n, ao, no, cap, ncap, ds, ss, rfl, rfl, hx, hsx, hxc, _, hs, _⟩ := open_ans (hval 0 41 v0 rfl rfl) h0
  obtain ⟨raw, ro, rc, rfl, hr, hrc, hrcm, hsr⟩ := open_bytes Try.underlying23 Try.underlying5 cells5 (hval 1 23 v1 rfl rfl) h1
  exact (opanswers_ok c n ao no ro cap ncap rc ds raw ss W ⟨⟨ao, cap, rfl, hx, hsx, hxc⟩, no, ncap, rfl, hs⟩ ⟨ro, rc, rfl, hr, hsr, hrc⟩).mono fun e W' ⟨he, hg⟩ => ⟨he, hg.below⟩

theorem over : Rows.operAnswersRow.holds Try.pinned (OpenSpec.ofChange Rows.operAnswersSpec) :=
  OpenClaim.holds_of_wide 5 Try.f5 rfl rfl rfl rfl rfl rfl rfl ⟨rfl, rfl, rfl, rfl, rfl⟩ rfl rfl rfl rfl rfl (by kernel_rfl) Try.func5 (by kernel_rfl)
    (of_decide_eq_true (by kernel_rfl)) (by unfold Func.isWrapper; first | (rw [if_pos (by decide +kernel)]; kernel_rfl) | (rw [if_neg (by decide +kernel)]; exact ⟨rfl, rfl⟩))
    (fun os started H enc _ => lifted os started H enc)

theorem operAnswers_proved : Rows.OperAnswersSaid := over
end Go.Proofs.Ytickphkeeflbbaa.operAnswers
