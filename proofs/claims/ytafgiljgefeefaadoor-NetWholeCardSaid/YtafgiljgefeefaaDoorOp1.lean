/- Operations: whether they are right. -/
import Derived.Test.YtafgiljgefeefaaDoorPack3
import Derived.Test.YtafgiljgefeefaaDoorStrs
namespace Go.Proofs.YtafgiljgefeefaaDoor
open Go.RowKit
set_option linter.unusedVariables false

/-- What an operation must be to be right. -/
def OpRight (k off n : Int) (p t : ByteArray) (len : Nat) : Prop := 1 ≤ k ∧ k ≤ 13 ∧ p.size ≤ 32 ∧ t.size ≤ 32 ∧ (0 ≤ off ∧ off ≤ 65535) ∧ (0 ≤ n ∧ n ≤ 65535) ∧ len ≤ 64
instance (k off n : Int) (p t : ByteArray) (len : Nat) : Decidable (OpRight k off n p t len) := by unfold OpRight; infer_instance
/-- An operation as a value. -/
abbrev opVal (k off n : Int) (p t : ByteArray) (x : Value) : Value := .agg #[.int .i64 k, .string p, .string t, .int .i64 off, .int .i64 n, x]

set_option maxRecDepth 100000 in
set_option maxHeartbeats 800000 in
theorem within_ok (n : Int) (w : World) : Calls Tryd.prog 64 #[.int .i64 n] w fun e w' => e = .returned (.bool (decide (0 ≤ n ∧ n ≤ 65535))) ∧ w' = w := by
  by_cases h1 : (0 : Int) ≤ n
  case neg =>
    rw [decide_eq_false (fun h => h1 h.1)]
    go_enter Tryd.func64, Tryd.ntmps64
    go_wp2
    go_ret
    exact ⟨rfl, rfl⟩
  by_cases h2 : n ≤ 65535
  case neg =>
    rw [decide_eq_false (fun h => h2 h.2)]
    go_enter Tryd.func64, Tryd.ntmps64
    go_wp2
    go_ret
    exact ⟨rfl, rfl⟩
  · rw [decide_eq_true ⟨h1, h2⟩]
    go_enter Tryd.func64, Tryd.ntmps64
    go_wp2
    go_ret
    exact ⟨rfl, rfl⟩

set_option maxRecDepth 100000 in
set_option maxHeartbeats 1600000 in
theorem rightOp_no1 (k off n : Int) (p t : ByteArray) (ao : Option Addr) (len cap : Nat) (w : World) (m : k < 1) :
    Calls Tryd.prog 51 #[opVal k off n p t (.slice ao len cap)] w fun e w' => e = .returned (.bool false) ∧ Same w w' := by
  go_enter Tryd.func51, Tryd.ntmps51
  go_wp2
  go_ret
  exact ⟨rfl, (Keeps.refl _ _).alloc _⟩

set_option maxRecDepth 100000 in
set_option maxHeartbeats 1600000 in
theorem rightOp_no2 (k off n : Int) (p t : ByteArray) (ao : Option Addr) (len cap : Nat) (w : World) (q1 : (1 : Int) ≤ k) (m : (13 : Int) < k) :
    Calls Tryd.prog 51 #[opVal k off n p t (.slice ao len cap)] w fun e w' => e = .returned (.bool false) ∧ Same w w' := by
  go_enter Tryd.func51, Tryd.ntmps51
  go_wp2
  go_ret
  exact ⟨rfl, (Keeps.refl _ _).alloc _⟩

set_option maxRecDepth 100000 in
set_option maxHeartbeats 1600000 in
theorem rightOp_no3 (k off n : Int) (p t : ByteArray) (ao : Option Addr) (len cap : Nat) (w : World) (q1 : (1 : Int) ≤ k) (q2 : k ≤ 13) (m : (32 : Int) < (p.size : Int)) :
    Calls Tryd.prog 51 #[opVal k off n p t (.slice ao len cap)] w fun e w' => e = .returned (.bool false) ∧ Same w w' := by
  go_enter Tryd.func51, Tryd.ntmps51
  go_wp2
  go_ret
  exact ⟨rfl, (Keeps.refl _ _).alloc _⟩

set_option maxRecDepth 100000 in
set_option maxHeartbeats 1600000 in
theorem rightOp_no4 (k off n : Int) (p t : ByteArray) (ao : Option Addr) (len cap : Nat) (w : World) (q1 : (1 : Int) ≤ k) (q2 : k ≤ 13) (q3 : (p.size : Int) ≤ 32) (m : (32 : Int) < (t.size : Int)) :
    Calls Tryd.prog 51 #[opVal k off n p t (.slice ao len cap)] w fun e w' => e = .returned (.bool false) ∧ Same w w' := by
  go_enter Tryd.func51, Tryd.ntmps51
  go_wp2
  go_ret
  exact ⟨rfl, (Keeps.refl _ _).alloc _⟩

set_option maxRecDepth 100000 in
set_option maxHeartbeats 1600000 in
theorem rightOp_no5 (k off n : Int) (p t : ByteArray) (ao : Option Addr) (len cap : Nat) (w : World) (q1 : (1 : Int) ≤ k) (q2 : k ≤ 13) (q3 : (p.size : Int) ≤ 32) (q4 : (t.size : Int) ≤ 32) (m : ¬ (0 ≤ off ∧ off ≤ 65535)) :
    Calls Tryd.prog 51 #[opVal k off n p t (.slice ao len cap)] w fun e w' => e = .returned (.bool false) ∧ Same w w' := by
  go_enter Tryd.func51, Tryd.ntmps51
  go_wp2_with fail
  ((with_reducible refine (within_ok off _).mono ?_); rintro e w1 ⟨rfl, rfl⟩)
  rw [decide_eq_false m]
  go_wp2
  go_ret
  exact ⟨rfl, (Keeps.refl _ _).alloc _⟩

set_option maxRecDepth 100000 in
set_option maxHeartbeats 1600000 in
theorem rightOp_no6 (k off n : Int) (p t : ByteArray) (ao : Option Addr) (len cap : Nat) (w : World) (q1 : (1 : Int) ≤ k) (q2 : k ≤ 13) (q3 : (p.size : Int) ≤ 32) (q4 : (t.size : Int) ≤ 32) (q5 : 0 ≤ off ∧ off ≤ 65535) (m : ¬ (0 ≤ n ∧ n ≤ 65535)) :
    Calls Tryd.prog 51 #[opVal k off n p t (.slice ao len cap)] w fun e w' => e = .returned (.bool false) ∧ Same w w' := by
  go_enter Tryd.func51, Tryd.ntmps51
  go_wp2_with fail
  ((with_reducible refine (within_ok off _).mono ?_); rintro e w1 ⟨rfl, rfl⟩)
  rw [decide_eq_true q5]
  go_wp2_with fail
  ((with_reducible refine (within_ok n _).mono ?_); rintro e w1 ⟨rfl, rfl⟩)
  rw [decide_eq_false m]
  go_wp2
  go_ret
  exact ⟨rfl, (Keeps.refl _ _).alloc _⟩

set_option maxRecDepth 100000 in
set_option maxHeartbeats 1600000 in
theorem rightOp_yes (k off n : Int) (p t : ByteArray) (ao : Option Addr) (len cap : Nat) (w : World) (q1 : (1 : Int) ≤ k) (q2 : k ≤ 13) (q3 : (p.size : Int) ≤ 32) (q4 : (t.size : Int) ≤ 32) (q5 : 0 ≤ off ∧ off ≤ 65535) (q6 : 0 ≤ n ∧ n ≤ 65535) :
    Calls Tryd.prog 51 #[opVal k off n p t (.slice ao len cap)] w fun e w' => e = .returned (.bool (decide ((len : Int) ≤ 64))) ∧ Same w w' := by
  go_enter Tryd.func51, Tryd.ntmps51
  go_wp2_with fail
  ((with_reducible refine (within_ok off _).mono ?_); rintro e w1 ⟨rfl, rfl⟩)
  rw [decide_eq_true q5]
  go_wp2_with fail
  ((with_reducible refine (within_ok n _).mono ?_); rintro e w1 ⟨rfl, rfl⟩)
  rw [decide_eq_true q6]
  go_wp2
  go_ret
  exact ⟨rfl, (Keeps.refl _ _).alloc _⟩

theorem rightOp_ok (k off n : Int) (p t : ByteArray) (ao : Option Addr) (len cap : Nat) (w : World) :
    Calls Tryd.prog 51 #[opVal k off n p t (.slice ao len cap)] w fun e w' => e = .returned (.bool (decide (OpRight k off n p t len))) ∧ Same w w' := by
  by_cases q1 : (1 : Int) ≤ k
  case neg => rw [decide_eq_false (fun h => q1 h.1)]; exact rightOp_no1 k off n p t ao len cap w (by omega)
  by_cases q2 : k ≤ 13
  case neg => rw [decide_eq_false (fun h => q2 h.2.1)]; exact rightOp_no2 k off n p t ao len cap w q1 (by omega)
  by_cases q3 : (p.size : Int) ≤ 32
  case neg => rw [decide_eq_false (fun h => q3 (by have := h.2.2.1; omega))]; exact rightOp_no3 k off n p t ao len cap w q1 q2 (by omega)
  by_cases q4 : (t.size : Int) ≤ 32
  case neg => rw [decide_eq_false (fun h => q4 (by have := h.2.2.2.1; omega))]; exact rightOp_no4 k off n p t ao len cap w q1 q2 q3 (by omega)
  by_cases q5 : 0 ≤ off ∧ off ≤ 65535
  case neg => rw [decide_eq_false (fun h => q5 h.2.2.2.2.1)]; exact rightOp_no5 k off n p t ao len cap w q1 q2 q3 q4 q5
  by_cases q6 : 0 ≤ n ∧ n ≤ 65535
  case neg => rw [decide_eq_false (fun h => q6 h.2.2.2.2.2.1)]; exact rightOp_no6 k off n p t ao len cap w q1 q2 q3 q4 q5 q6
  rw [show decide (OpRight k off n p t len) = decide ((len : Int) ≤ 64) from decide_eq_decide.2 ⟨fun h => by have := h.2.2.2.2.2.2; omega, fun h => ⟨q1, q2, by omega, by omega, q5, q6, by omega⟩⟩]
  exact rightOp_yes k off n p t ao len cap w q1 q2 q3 q4 q5 q6

end Go.Proofs.YtafgiljgefeefaaDoor
