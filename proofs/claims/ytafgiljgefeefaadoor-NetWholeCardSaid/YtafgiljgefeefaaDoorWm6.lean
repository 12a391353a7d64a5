/- The document's example of a message; the names. -/
import Derived.Test.YtafgiljgefeefaaDoorWm5
namespace Go.Proofs.YtafgiljgefeefaaDoor
open Go.RowKit
set_option linter.unusedVariables false

def fetchM : Msg := ⟨7, 0, 0, 0, 0, 0, 0, List.replicate 32 0, 0, 0, 0, ⟨#[]⟩, ⟨#[]⟩, 0, 0, none, 0, [], 0, 0, none, 0, [], none, 0, [], none, 0, [], none, 0, []⟩
theorem fetch_in (w : World) : MsgIn w fetchM := ⟨rfl, Bytes.nil _ _ _, Bytes.nil _ _ _, Strs.nil _ _ _, ⟨fun h e => by simp [fetchM] at e, .inl rfl⟩, .inr ⟨0, rfl, rfl⟩, Reads.nil _ _ _, Reads.nil _ _ _, fun r e => by simp [fetchM] at e, by simp [fetchM], by simp [fetchM]⟩
theorem fetch_right : fetchM.Right := by
  refine ⟨by simp [fetchM], by simp [fetchM], by simp [fetchM], ?_, ?_, by simp [fetchM], by simp [fetchM], fun b e => by simp [fetchM] at e⟩
  · simp [Msg.CallOk, fetchM, OpBlank]
  · simp [Msg.AnsOk, fetchM, AnsBlank]
theorem fetch_len : fetchM.bytes.length = 91 := by
  have h1 : fetchM.headB.length = 77 := fetchM.headB_length rfl
  have h2 : (shaOf fetchM.bodyB).length = 32 := shaOf_length _
  unfold Msg.bytes
  rw [List.length_append, List.length_take, h2]
  have h3 : fetchM.bodyB.length = 83 := by
    unfold Msg.bodyB Msg.frontB
    simp only [List.length_append, h1, be_length]
    rfl
  rw [h3]; rfl
end Go.Proofs.YtafgiljgefeefaaDoor
