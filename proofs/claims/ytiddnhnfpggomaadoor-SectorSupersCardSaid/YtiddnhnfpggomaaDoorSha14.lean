/- The document's own rotations and round numbers. -/
import Derived.Test.YtiddnhnfpggomaaDoorSha10
import Derived.Test.YtiddnhnfpggomaaDoorFresh
namespace Go.Proofs.YtiddnhnfpggomaaDoor
open Go.RowKit
set_option linter.unusedVariables false

theorem rr_comm (x : Wd) (r : Nat) : (x >>> r) ||| (x <<< (32 - r)) = rr x r := by unfold rr; exact BitVec.or_comm _ _

set_option maxHeartbeats 800000 in
theorem rrot7 (x : Wd) (w : World) : Calls Tryd.prog 43 #[.int .u32 (wn x), .int .i64 7] w fun e w' => e = .returned (.int .u32 (wn (rr x 7))) ∧ w' = w := by
  obtain ⟨h0, h1⟩ := wn_bound x
  have HE : Hid (bits BinOp.or IntKind.u32 (wn x / 128) (wn x * 33554432 % 4294967296) = wn (rr x 7)) := Lib.hid (by
    have e1 := w_shl x 25
    have e2 := w_shr x 7
    rw [show ((2 ^ 25 : Nat) : Int) = 33554432 from rfl] at e1
    rw [show ((2 ^ 7 : Nat) : Int) = 128 from rfl] at e2
    rw [e1, e2, w_or]
    exact congrArg wn (rr_comm x 7))
  go_enter Tryd.func43, Tryd.ntmps43
  go_wp2
  go_ret
  exact ⟨by rw [← HE.out]; rfl, rfl⟩

set_option maxHeartbeats 800000 in
theorem rrot18 (x : Wd) (w : World) : Calls Tryd.prog 43 #[.int .u32 (wn x), .int .i64 18] w fun e w' => e = .returned (.int .u32 (wn (rr x 18))) ∧ w' = w := by
  obtain ⟨h0, h1⟩ := wn_bound x
  have HE : Hid (bits BinOp.or IntKind.u32 (wn x / 262144) (wn x * 16384 % 4294967296) = wn (rr x 18)) := Lib.hid (by
    have e1 := w_shl x 14
    have e2 := w_shr x 18
    rw [show ((2 ^ 14 : Nat) : Int) = 16384 from rfl] at e1
    rw [show ((2 ^ 18 : Nat) : Int) = 262144 from rfl] at e2
    rw [e1, e2, w_or]
    exact congrArg wn (rr_comm x 18))
  go_enter Tryd.func43, Tryd.ntmps43
  go_wp2
  go_ret
  exact ⟨by rw [← HE.out]; rfl, rfl⟩

set_option maxHeartbeats 800000 in
theorem rrot17 (x : Wd) (w : World) : Calls Tryd.prog 43 #[.int .u32 (wn x), .int .i64 17] w fun e w' => e = .returned (.int .u32 (wn (rr x 17))) ∧ w' = w := by
  obtain ⟨h0, h1⟩ := wn_bound x
  have HE : Hid (bits BinOp.or IntKind.u32 (wn x / 131072) (wn x * 32768 % 4294967296) = wn (rr x 17)) := Lib.hid (by
    have e1 := w_shl x 15
    have e2 := w_shr x 17
    rw [show ((2 ^ 15 : Nat) : Int) = 32768 from rfl] at e1
    rw [show ((2 ^ 17 : Nat) : Int) = 131072 from rfl] at e2
    rw [e1, e2, w_or]
    exact congrArg wn (rr_comm x 17))
  go_enter Tryd.func43, Tryd.ntmps43
  go_wp2
  go_ret
  exact ⟨by rw [← HE.out]; rfl, rfl⟩

set_option maxHeartbeats 800000 in
theorem rrot19 (x : Wd) (w : World) : Calls Tryd.prog 43 #[.int .u32 (wn x), .int .i64 19] w fun e w' => e = .returned (.int .u32 (wn (rr x 19))) ∧ w' = w := by
  obtain ⟨h0, h1⟩ := wn_bound x
  have HE : Hid (bits BinOp.or IntKind.u32 (wn x / 524288) (wn x * 8192 % 4294967296) = wn (rr x 19)) := Lib.hid (by
    have e1 := w_shl x 13
    have e2 := w_shr x 19
    rw [show ((2 ^ 13 : Nat) : Int) = 8192 from rfl] at e1
    rw [show ((2 ^ 19 : Nat) : Int) = 524288 from rfl] at e2
    rw [e1, e2, w_or]
    exact congrArg wn (rr_comm x 19))
  go_enter Tryd.func43, Tryd.ntmps43
  go_wp2
  go_ret
  exact ⟨by rw [← HE.out]; rfl, rfl⟩

set_option maxHeartbeats 800000 in
theorem rrot6 (x : Wd) (w : World) : Calls Tryd.prog 43 #[.int .u32 (wn x), .int .i64 6] w fun e w' => e = .returned (.int .u32 (wn (rr x 6))) ∧ w' = w := by
  obtain ⟨h0, h1⟩ := wn_bound x
  have HE : Hid (bits BinOp.or IntKind.u32 (wn x / 64) (wn x * 67108864 % 4294967296) = wn (rr x 6)) := Lib.hid (by
    have e1 := w_shl x 26
    have e2 := w_shr x 6
    rw [show ((2 ^ 26 : Nat) : Int) = 67108864 from rfl] at e1
    rw [show ((2 ^ 6 : Nat) : Int) = 64 from rfl] at e2
    rw [e1, e2, w_or]
    exact congrArg wn (rr_comm x 6))
  go_enter Tryd.func43, Tryd.ntmps43
  go_wp2
  go_ret
  exact ⟨by rw [← HE.out]; rfl, rfl⟩

set_option maxHeartbeats 800000 in
theorem rrot11 (x : Wd) (w : World) : Calls Tryd.prog 43 #[.int .u32 (wn x), .int .i64 11] w fun e w' => e = .returned (.int .u32 (wn (rr x 11))) ∧ w' = w := by
  obtain ⟨h0, h1⟩ := wn_bound x
  have HE : Hid (bits BinOp.or IntKind.u32 (wn x / 2048) (wn x * 2097152 % 4294967296) = wn (rr x 11)) := Lib.hid (by
    have e1 := w_shl x 21
    have e2 := w_shr x 11
    rw [show ((2 ^ 21 : Nat) : Int) = 2097152 from rfl] at e1
    rw [show ((2 ^ 11 : Nat) : Int) = 2048 from rfl] at e2
    rw [e1, e2, w_or]
    exact congrArg wn (rr_comm x 11))
  go_enter Tryd.func43, Tryd.ntmps43
  go_wp2
  go_ret
  exact ⟨by rw [← HE.out]; rfl, rfl⟩

set_option maxHeartbeats 800000 in
theorem rrot25 (x : Wd) (w : World) : Calls Tryd.prog 43 #[.int .u32 (wn x), .int .i64 25] w fun e w' => e = .returned (.int .u32 (wn (rr x 25))) ∧ w' = w := by
  obtain ⟨h0, h1⟩ := wn_bound x
  have HE : Hid (bits BinOp.or IntKind.u32 (wn x / 33554432) (wn x * 128 % 4294967296) = wn (rr x 25)) := Lib.hid (by
    have e1 := w_shl x 7
    have e2 := w_shr x 25
    rw [show ((2 ^ 7 : Nat) : Int) = 128 from rfl] at e1
    rw [show ((2 ^ 25 : Nat) : Int) = 33554432 from rfl] at e2
    rw [e1, e2, w_or]
    exact congrArg wn (rr_comm x 25))
  go_enter Tryd.func43, Tryd.ntmps43
  go_wp2
  go_ret
  exact ⟨by rw [← HE.out]; rfl, rfl⟩

set_option maxHeartbeats 800000 in
theorem rrot2 (x : Wd) (w : World) : Calls Tryd.prog 43 #[.int .u32 (wn x), .int .i64 2] w fun e w' => e = .returned (.int .u32 (wn (rr x 2))) ∧ w' = w := by
  obtain ⟨h0, h1⟩ := wn_bound x
  have HE : Hid (bits BinOp.or IntKind.u32 (wn x / 4) (wn x * 1073741824 % 4294967296) = wn (rr x 2)) := Lib.hid (by
    have e1 := w_shl x 30
    have e2 := w_shr x 2
    rw [show ((2 ^ 30 : Nat) : Int) = 1073741824 from rfl] at e1
    rw [show ((2 ^ 2 : Nat) : Int) = 4 from rfl] at e2
    rw [e1, e2, w_or]
    exact congrArg wn (rr_comm x 2))
  go_enter Tryd.func43, Tryd.ntmps43
  go_wp2
  go_ret
  exact ⟨by rw [← HE.out]; rfl, rfl⟩

set_option maxHeartbeats 800000 in
theorem rrot13 (x : Wd) (w : World) : Calls Tryd.prog 43 #[.int .u32 (wn x), .int .i64 13] w fun e w' => e = .returned (.int .u32 (wn (rr x 13))) ∧ w' = w := by
  obtain ⟨h0, h1⟩ := wn_bound x
  have HE : Hid (bits BinOp.or IntKind.u32 (wn x / 8192) (wn x * 524288 % 4294967296) = wn (rr x 13)) := Lib.hid (by
    have e1 := w_shl x 19
    have e2 := w_shr x 13
    rw [show ((2 ^ 19 : Nat) : Int) = 524288 from rfl] at e1
    rw [show ((2 ^ 13 : Nat) : Int) = 8192 from rfl] at e2
    rw [e1, e2, w_or]
    exact congrArg wn (rr_comm x 13))
  go_enter Tryd.func43, Tryd.ntmps43
  go_wp2
  go_ret
  exact ⟨by rw [← HE.out]; rfl, rfl⟩

set_option maxHeartbeats 800000 in
theorem rrot22 (x : Wd) (w : World) : Calls Tryd.prog 43 #[.int .u32 (wn x), .int .i64 22] w fun e w' => e = .returned (.int .u32 (wn (rr x 22))) ∧ w' = w := by
  obtain ⟨h0, h1⟩ := wn_bound x
  have HE : Hid (bits BinOp.or IntKind.u32 (wn x / 4194304) (wn x * 1024 % 4294967296) = wn (rr x 22)) := Lib.hid (by
    have e1 := w_shl x 10
    have e2 := w_shr x 22
    rw [show ((2 ^ 10 : Nat) : Int) = 1024 from rfl] at e1
    rw [show ((2 ^ 22 : Nat) : Int) = 4194304 from rfl] at e2
    rw [e1, e2, w_or]
    exact congrArg wn (rr_comm x 22))
  go_enter Tryd.func43, Tryd.ntmps43
  go_wp2
  go_ret
  exact ⟨by rw [← HE.out]; rfl, rfl⟩

end Go.Proofs.YtiddnhnfpggomaaDoor
