/- The document's own answers on operations: whether they are right, and their bytes. -/
import Derived.Test.YtickphkeeflbbaaOpR2
import Derived.Test.YtickphkeeflbbaaRefText
import Derived.Test.YtickphkeeflbbaaFresh
namespace Go.Proofs.Ytickphkeeflbbaa
open Go.RowKit
set_option linter.unusedVariables false

set_option maxRecDepth 100000 in
set_option maxHeartbeats 1600000 in
theorem refRight_no1 (k off n : Int) (p t : ByteArray) (ao : Option Addr) (len cap : Nat) (w : World)  (m : k < 1) :
    Calls Try.prog 27 #[opVal k off n p t (.slice ao len cap)] w fun e w' => e = .returned (.bool false) ∧ Same w w' := by
  go_enter Try.func27, Try.ntmps27
  go_wp2
  go_ret
  exact ⟨rfl, (Keeps.refl _ _).alloc _⟩

set_option maxRecDepth 100000 in
set_option maxHeartbeats 1600000 in
theorem refRight_no2 (k off n : Int) (p t : ByteArray) (ao : Option Addr) (len cap : Nat) (w : World) (q1 : (1 : Int) ≤ k) (m : (13 : Int) < k) :
    Calls Try.prog 27 #[opVal k off n p t (.slice ao len cap)] w fun e w' => e = .returned (.bool false) ∧ Same w w' := by
  go_enter Try.func27, Try.ntmps27
  go_wp2
  go_ret
  exact ⟨rfl, (Keeps.refl _ _).alloc _⟩

set_option maxRecDepth 100000 in
set_option maxHeartbeats 1600000 in
theorem refRight_no3 (k off n : Int) (p t : ByteArray) (ao : Option Addr) (len cap : Nat) (w : World) (q1 : (1 : Int) ≤ k) (q2 : k ≤ 13) (m : (32 : Int) < (p.size : Int)) :
    Calls Try.prog 27 #[opVal k off n p t (.slice ao len cap)] w fun e w' => e = .returned (.bool false) ∧ Same w w' := by
  go_enter Try.func27, Try.ntmps27
  go_wp2
  go_ret
  exact ⟨rfl, (Keeps.refl _ _).alloc _⟩

set_option maxRecDepth 100000 in
set_option maxHeartbeats 1600000 in
theorem refRight_no4 (k off n : Int) (p t : ByteArray) (ao : Option Addr) (len cap : Nat) (w : World) (q1 : (1 : Int) ≤ k) (q2 : k ≤ 13) (q3 : (p.size : Int) ≤ 32) (m : (32 : Int) < (t.size : Int)) :
    Calls Try.prog 27 #[opVal k off n p t (.slice ao len cap)] w fun e w' => e = .returned (.bool false) ∧ Same w w' := by
  go_enter Try.func27, Try.ntmps27
  go_wp2
  go_ret
  exact ⟨rfl, (Keeps.refl _ _).alloc _⟩

set_option maxRecDepth 100000 in
set_option maxHeartbeats 1600000 in
theorem refRight_no5 (k off n : Int) (p t : ByteArray) (ao : Option Addr) (len cap : Nat) (w : World) (q1 : (1 : Int) ≤ k) (q2 : k ≤ 13) (q3 : (p.size : Int) ≤ 32) (q4 : (t.size : Int) ≤ 32) (m : off < 0) :
    Calls Try.prog 27 #[opVal k off n p t (.slice ao len cap)] w fun e w' => e = .returned (.bool false) ∧ Same w w' := by
  go_enter Try.func27, Try.ntmps27
  go_wp2
  go_ret
  exact ⟨rfl, (Keeps.refl _ _).alloc _⟩

set_option maxRecDepth 100000 in
set_option maxHeartbeats 1600000 in
theorem refRight_no6 (k off n : Int) (p t : ByteArray) (ao : Option Addr) (len cap : Nat) (w : World) (q1 : (1 : Int) ≤ k) (q2 : k ≤ 13) (q3 : (p.size : Int) ≤ 32) (q4 : (t.size : Int) ≤ 32) (q5 : (0 : Int) ≤ off) (m : (65536 : Int) ≤ off) :
    Calls Try.prog 27 #[opVal k off n p t (.slice ao len cap)] w fun e w' => e = .returned (.bool false) ∧ Same w w' := by
  go_enter Try.func27, Try.ntmps27
  go_wp2
  go_ret
  exact ⟨rfl, (Keeps.refl _ _).alloc _⟩

set_option maxRecDepth 100000 in
set_option maxHeartbeats 1600000 in
theorem refRight_no7 (k off n : Int) (p t : ByteArray) (ao : Option Addr) (len cap : Nat) (w : World) (q1 : (1 : Int) ≤ k) (q2 : k ≤ 13) (q3 : (p.size : Int) ≤ 32) (q4 : (t.size : Int) ≤ 32) (q5 : (0 : Int) ≤ off) (q6 : off < 65536) (m : n < 0) :
    Calls Try.prog 27 #[opVal k off n p t (.slice ao len cap)] w fun e w' => e = .returned (.bool false) ∧ Same w w' := by
  go_enter Try.func27, Try.ntmps27
  go_wp2
  go_ret
  exact ⟨rfl, (Keeps.refl _ _).alloc _⟩

set_option maxRecDepth 100000 in
set_option maxHeartbeats 1600000 in
theorem refRight_no8 (k off n : Int) (p t : ByteArray) (ao : Option Addr) (len cap : Nat) (w : World) (q1 : (1 : Int) ≤ k) (q2 : k ≤ 13) (q3 : (p.size : Int) ≤ 32) (q4 : (t.size : Int) ≤ 32) (q5 : (0 : Int) ≤ off) (q6 : off < 65536) (q7 : (0 : Int) ≤ n) (m : (65536 : Int) ≤ n) :
    Calls Try.prog 27 #[opVal k off n p t (.slice ao len cap)] w fun e w' => e = .returned (.bool false) ∧ Same w w' := by
  go_enter Try.func27, Try.ntmps27
  go_wp2
  go_ret
  exact ⟨rfl, (Keeps.refl _ _).alloc _⟩

set_option maxRecDepth 100000 in
set_option maxHeartbeats 1600000 in
theorem refRight_yes (k off n : Int) (p t : ByteArray) (ao : Option Addr) (len cap : Nat) (w : World) (q1 : (1 : Int) ≤ k) (q2 : k ≤ 13) (q3 : (p.size : Int) ≤ 32) (q4 : (t.size : Int) ≤ 32) (q5 : (0 : Int) ≤ off) (q6 : off < 65536) (q7 : (0 : Int) ≤ n) (q8 : n < 65536) :
    Calls Try.prog 27 #[opVal k off n p t (.slice ao len cap)] w fun e w' => e = .returned (.bool (decide ((len : Int) ≤ 64))) ∧ Same w w' := by
  go_enter Try.func27, Try.ntmps27
  go_wp2
  go_ret
  exact ⟨rfl, (Keeps.refl _ _).alloc _⟩

theorem refRight_ok (k off n : Int) (p t : ByteArray) (ao : Option Addr) (len cap : Nat) (w : World) :
    Calls Try.prog 27 #[opVal k off n p t (.slice ao len cap)] w fun e w' => e = .returned (.bool (decide (OpRight k off n p t len))) ∧ Same w w' := by
  by_cases q1 : (1 : Int) ≤ k
  case neg => rw [decide_eq_false (fun h => q1 (by obtain ⟨a1, a2, a3, a4, ⟨a5, a6⟩, ⟨a7, a8⟩, a9⟩ := h; omega))]; exact refRight_no1 k off n p t ao len cap w  (by omega)
  by_cases q2 : k ≤ 13
  case neg => rw [decide_eq_false (fun h => q2 (by obtain ⟨a1, a2, a3, a4, ⟨a5, a6⟩, ⟨a7, a8⟩, a9⟩ := h; omega))]; exact refRight_no2 k off n p t ao len cap w q1 (by omega)
  by_cases q3 : (p.size : Int) ≤ 32
  case neg => rw [decide_eq_false (fun h => q3 (by obtain ⟨a1, a2, a3, a4, ⟨a5, a6⟩, ⟨a7, a8⟩, a9⟩ := h; omega))]; exact refRight_no3 k off n p t ao len cap w q1 q2 (by omega)
  by_cases q4 : (t.size : Int) ≤ 32
  case neg => rw [decide_eq_false (fun h => q4 (by obtain ⟨a1, a2, a3, a4, ⟨a5, a6⟩, ⟨a7, a8⟩, a9⟩ := h; omega))]; exact refRight_no4 k off n p t ao len cap w q1 q2 q3 (by omega)
  by_cases q5 : (0 : Int) ≤ off
  case neg => rw [decide_eq_false (fun h => q5 (by obtain ⟨a1, a2, a3, a4, ⟨a5, a6⟩, ⟨a7, a8⟩, a9⟩ := h; omega))]; exact refRight_no5 k off n p t ao len cap w q1 q2 q3 q4 (by omega)
  by_cases q6 : off < 65536
  case neg => rw [decide_eq_false (fun h => q6 (by obtain ⟨a1, a2, a3, a4, ⟨a5, a6⟩, ⟨a7, a8⟩, a9⟩ := h; omega))]; exact refRight_no6 k off n p t ao len cap w q1 q2 q3 q4 q5 (by omega)
  by_cases q7 : (0 : Int) ≤ n
  case neg => rw [decide_eq_false (fun h => q7 (by obtain ⟨a1, a2, a3, a4, ⟨a5, a6⟩, ⟨a7, a8⟩, a9⟩ := h; omega))]; exact refRight_no7 k off n p t ao len cap w q1 q2 q3 q4 q5 q6 (by omega)
  by_cases q8 : n < 65536
  case neg => rw [decide_eq_false (fun h => q8 (by obtain ⟨a1, a2, a3, a4, ⟨a5, a6⟩, ⟨a7, a8⟩, a9⟩ := h; omega))]; exact refRight_no8 k off n p t ao len cap w q1 q2 q3 q4 q5 q6 q7 (by omega)
  rw [show decide (OpRight k off n p t len) = decide ((len : Int) ≤ 64) from decide_eq_decide.2 ⟨fun h => by have := h.2.2.2.2.2.2; omega, fun h => ⟨q1, q2, by omega, by omega, ⟨by omega, by omega⟩, ⟨by omega, by omega⟩, by omega⟩⟩]
  exact refRight_yes k off n p t ao len cap w q1 q2 q3 q4 q5 q6 q7 q8

end Go.Proofs.Ytickphkeeflbbaa
