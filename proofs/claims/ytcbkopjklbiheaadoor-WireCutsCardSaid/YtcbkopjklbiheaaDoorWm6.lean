/- The document's example of a message; the names. -/
import Derived.Test.YtcbkopjklbiheaaDoorWm5
namespace Go.Proofs.YtcbkopjklbiheaaDoor
open Go.RowKit
set_option linter.unusedVariables false

def fetchM : Msg := ⟨7, 0, 0, 0, 0, 0, 0, List.replicate 32 0, 0, 0, 0, ⟨#[]⟩, ⟨#[]⟩, 0, 0, none, 0, [], 0, 0, none, 0, [], none, 0, [], none, 0, [], none, 0, []⟩
theorem fetch_in (w : World) : MsgIn w fetchM := ⟨rfl, Bytes.nil _ _ _, Bytes.nil _ _ _, Strs.nil _ _ _, ⟨fun h e => by simp [fetchM] at e, .inl rfl⟩, .inr ⟨0, rfl, rfl⟩, Reads.nil _ _ _, Reads.nil _ _ _, fun r e => by simp [fetchM] at e, by simp [fetchM], by simp [fetchM]⟩
theorem fetch_right : fetchM.Right := by
  refine ⟨by simp [fetchM], by simp [fetchM], by simp [fetchM], ?_, ?_, by simp [fetchM], by simp [fetchM], fun b e => by simp [fetchM] at e⟩
  · simp [Msg.CallOk, fetchM, OpBlank]
  · simp [Msg.AnsOk, fetchM, AnsBlank]
theorem fetch_len : fetchM.bytes.length = 91 := by
  have h1 : fetchM.headB.length = 77 := fetchM.headB_length rfl
  have h2 : (shaOf fetchM.bodyB).length = 32 := shaOf_length _
  unfold Msg.bytes
  rw [List.length_append, List.length_take, h2]
  have h3 : fetchM.bodyB.length = 83 := by
    unfold Msg.bodyB Msg.frontB
    simp only [List.length_append, h1, be_length]
    rfl
  rw [h3]; rfl
set_option maxRecDepth 100000 in
set_option maxHeartbeats 3200000 in
theorem speaks19 (w : World) (hN : Nums w) : Calls Tryd.prog 8 #[] w fun e w' => e = .returned (.bool true) ∧ Same w w' := by
  have HW := Lib.hid (wireWrite_any fetchM w (fetch_in w) hN)
  unfold WirePost at HW
  have HL := Lib.hid fetch_len
  have HR := Lib.hid fetch_right
  clear hN
  obtain ⟨mc, hmc⟩ : ∃ mc, fetchM.cells.toArray = mc := ⟨_, rfl⟩
  have HMC : Hid (mc = fetchM.cells.toArray) := Lib.hid hmc.symm
  rw [hmc] at HW
  clear hmc
  go_enter Tryd.func8, Tryd.ntmps8
  go_wp2_with (refine wpList_buildTo (by rfl) 38 _ (by rfl) _ (by rfl) mc (by rw [HMC.out]; kernel_rfl) ?_)
  ((with_reducible refine (HW.out).mono ?_); rintro e w2 ⟨hk, hr⟩)
  have HK := Lib.hid hk
  rcases hr with ⟨_, v, rfl, ho⟩ | ⟨h, _⟩
  case inr => exact absurd HR.out h
  rw [HL.out] at ho
  obtain ⟨g7, c7, rfl⟩ : ∃ g7 c7, v = .slice (some ⟨g7, 0, none⟩) 91 c7 := by
    rcases ho.2 with ⟨_, h0⟩ | ⟨g, cp, cur, h, _⟩
    · omega
    · exact ⟨g, cp, h⟩
  clear ho hk
  go_wp2
  go_ret
  exact ⟨rfl, HK.out⟩

set_option maxRecDepth 100000 in
set_option maxHeartbeats 3200000 in
theorem wnames_any (w : World) (hN : Nums w) : Calls Tryd.prog 3 #[] w fun e w' => e = .returned (.bool true) ∧ Same w w' := by
  have HN := Lib.hid hN
  clear hN
  go_enter Tryd.func3, Tryd.ntmps3
  go_wp2_with fail
  ((with_reducible refine (speaks19 _ HN.out).mono ?_); rintro e w1 ⟨rfl, hk1⟩)
  have HK := Lib.hid hk1
  clear hk1
  go_wp2
  go_ret
  exact ⟨rfl, HK.out⟩
end Go.Proofs.YtcbkopjklbiheaaDoor
