/- SHA-256 over words, and RotateLeft32. -/
import Derived.Test.YtcbkopjklbiheaaDoorBase
namespace Go.Proofs.YtcbkopjklbiheaaDoor
open Go.RowKit
set_option linter.unusedVariables false

abbrev Wd := BitVec 32
/-- A word as a number of the model. -/
def wn (x : Wd) : Int := (x.toNat : Int)
theorem wn_bound (x : Wd) : 0 ≤ wn x ∧ wn x < 4294967296 := by
  have := x.isLt
  unfold wn; omega
theorem wn_mk (n : Nat) (h : n < 4294967296) : wn (BitVec.ofNat 32 n) = (n : Int) := by
  unfold wn
  rw [BitVec.toNat_ofNat, Nat.mod_eq_of_lt (by omega)]
theorem ofInt_wn (x : Wd) : BitVec.ofInt 32 (wn x) = x := by
  apply BitVec.eq_of_toNat_eq
  rw [BitVec.toNat_ofInt]
  have := x.isLt
  unfold wn; omega
theorem wrap_wd (x : Wd) : IntKind.u32.wrap (x.toNat : Int) = wn x := by
  have h1 := x.isLt
  have h2 : IntKind.u32.wrap (x.toNat : Int) = (x.toNat : Int) % 4294967296 := rfl
  rw [h2]; unfold wn; omega
theorem w_xor (x y : Wd) : bits BinOp.xor IntKind.u32 (wn x) (wn y) = wn (x ^^^ y) := by
  have h : bits BinOp.xor IntKind.u32 (wn x) (wn y) = IntKind.u32.wrap ((BitVec.ofInt 32 (wn x) ^^^ BitVec.ofInt 32 (wn y)).toNat : Int) := rfl
  rw [h, ofInt_wn, ofInt_wn, wrap_wd]
theorem w_and (x y : Wd) : bits BinOp.and IntKind.u32 (wn x) (wn y) = wn (x &&& y) := by
  have h : bits BinOp.and IntKind.u32 (wn x) (wn y) = IntKind.u32.wrap ((BitVec.ofInt 32 (wn x) &&& BitVec.ofInt 32 (wn y)).toNat : Int) := rfl
  rw [h, ofInt_wn, ofInt_wn, wrap_wd]
theorem w_or (x y : Wd) : bits BinOp.or IntKind.u32 (wn x) (wn y) = wn (x ||| y) := by
  have h : bits BinOp.or IntKind.u32 (wn x) (wn y) = IntKind.u32.wrap ((BitVec.ofInt 32 (wn x) ||| BitVec.ofInt 32 (wn y)).toNat : Int) := rfl
  rw [h, ofInt_wn, ofInt_wn, wrap_wd]
theorem w_add (x y : Wd) : (wn x + wn y) % 4294967296 = wn (x + y) := by
  unfold wn
  rw [BitVec.toNat_add]
  omega
theorem w_wrap_add (x y : Wd) : IntKind.u32.wrap (wn x + wn y) = wn (x + y) := w_add x y
theorem w_shr (x : Wd) (k : Nat) : wn x / ((2 ^ k : Nat) : Int) = wn (x >>> k) := by
  unfold wn
  rw [BitVec.toNat_ushiftRight, Nat.shiftRight_eq_div_pow]
  norm_cast
theorem w_shl (x : Wd) (k : Nat) : wn x * ((2 ^ k : Nat) : Int) % 4294967296 = wn (x <<< k) := by
  unfold wn
  rw [BitVec.toNat_shiftLeft, Nat.shiftLeft_eq]
  show _ = ((x.toNat * 2 ^ k % 4294967296 : Nat) : Int)
  rw [Int.natCast_emod, Int.natCast_mul]
  rfl
def rr (x : Wd) (r : Nat) : Wd := (x <<< (32 - r)) ||| (x >>> r)

set_option maxHeartbeats 800000 in
theorem rot7 (x : Wd) (w : World) : Calls Tryd.prog 81 #[.int .u32 (wn x), .int .i64 (-7)] w fun e w' => e = .returned (.int .u32 (wn (rr x 7))) ∧ w' = w := by
  have k1 : IntKind.u64.wrap (-7) = 18446744073709551609 := by decide
  have k2 : bits BinOp.and IntKind.u64 18446744073709551609 31 = 25 := by decide +kernel
  obtain ⟨h0, h1⟩ := wn_bound x
  have HE : Hid (bits BinOp.or IntKind.u32 (wn x * 33554432 % 4294967296) (wn x / 128) = wn (rr x 7)) := Lib.hid (by
    have e1 := w_shl x 25
    have e2 := w_shr x 7
    rw [show ((2 ^ 25 : Nat) : Int) = 33554432 from rfl] at e1
    rw [show ((2 ^ 7 : Nat) : Int) = 128 from rfl] at e2
    rw [e1, e2, w_or]
    rfl)
  go_enter Tryd.func81, Tryd.ntmps81
  go_wp2
  go_ret
  exact ⟨by rw [← HE.out]; rfl, rfl⟩

set_option maxHeartbeats 800000 in
theorem rot18 (x : Wd) (w : World) : Calls Tryd.prog 81 #[.int .u32 (wn x), .int .i64 (-18)] w fun e w' => e = .returned (.int .u32 (wn (rr x 18))) ∧ w' = w := by
  have k1 : IntKind.u64.wrap (-18) = 18446744073709551598 := by decide
  have k2 : bits BinOp.and IntKind.u64 18446744073709551598 31 = 14 := by decide +kernel
  obtain ⟨h0, h1⟩ := wn_bound x
  have HE : Hid (bits BinOp.or IntKind.u32 (wn x * 16384 % 4294967296) (wn x / 262144) = wn (rr x 18)) := Lib.hid (by
    have e1 := w_shl x 14
    have e2 := w_shr x 18
    rw [show ((2 ^ 14 : Nat) : Int) = 16384 from rfl] at e1
    rw [show ((2 ^ 18 : Nat) : Int) = 262144 from rfl] at e2
    rw [e1, e2, w_or]
    rfl)
  go_enter Tryd.func81, Tryd.ntmps81
  go_wp2
  go_ret
  exact ⟨by rw [← HE.out]; rfl, rfl⟩

set_option maxHeartbeats 800000 in
theorem rot17 (x : Wd) (w : World) : Calls Tryd.prog 81 #[.int .u32 (wn x), .int .i64 (-17)] w fun e w' => e = .returned (.int .u32 (wn (rr x 17))) ∧ w' = w := by
  have k1 : IntKind.u64.wrap (-17) = 18446744073709551599 := by decide
  have k2 : bits BinOp.and IntKind.u64 18446744073709551599 31 = 15 := by decide +kernel
  obtain ⟨h0, h1⟩ := wn_bound x
  have HE : Hid (bits BinOp.or IntKind.u32 (wn x * 32768 % 4294967296) (wn x / 131072) = wn (rr x 17)) := Lib.hid (by
    have e1 := w_shl x 15
    have e2 := w_shr x 17
    rw [show ((2 ^ 15 : Nat) : Int) = 32768 from rfl] at e1
    rw [show ((2 ^ 17 : Nat) : Int) = 131072 from rfl] at e2
    rw [e1, e2, w_or]
    rfl)
  go_enter Tryd.func81, Tryd.ntmps81
  go_wp2
  go_ret
  exact ⟨by rw [← HE.out]; rfl, rfl⟩

set_option maxHeartbeats 800000 in
theorem rot19 (x : Wd) (w : World) : Calls Tryd.prog 81 #[.int .u32 (wn x), .int .i64 (-19)] w fun e w' => e = .returned (.int .u32 (wn (rr x 19))) ∧ w' = w := by
  have k1 : IntKind.u64.wrap (-19) = 18446744073709551597 := by decide
  have k2 : bits BinOp.and IntKind.u64 18446744073709551597 31 = 13 := by decide +kernel
  obtain ⟨h0, h1⟩ := wn_bound x
  have HE : Hid (bits BinOp.or IntKind.u32 (wn x * 8192 % 4294967296) (wn x / 524288) = wn (rr x 19)) := Lib.hid (by
    have e1 := w_shl x 13
    have e2 := w_shr x 19
    rw [show ((2 ^ 13 : Nat) : Int) = 8192 from rfl] at e1
    rw [show ((2 ^ 19 : Nat) : Int) = 524288 from rfl] at e2
    rw [e1, e2, w_or]
    rfl)
  go_enter Tryd.func81, Tryd.ntmps81
  go_wp2
  go_ret
  exact ⟨by rw [← HE.out]; rfl, rfl⟩

set_option maxHeartbeats 800000 in
theorem rot6 (x : Wd) (w : World) : Calls Tryd.prog 81 #[.int .u32 (wn x), .int .i64 (-6)] w fun e w' => e = .returned (.int .u32 (wn (rr x 6))) ∧ w' = w := by
  have k1 : IntKind.u64.wrap (-6) = 18446744073709551610 := by decide
  have k2 : bits BinOp.and IntKind.u64 18446744073709551610 31 = 26 := by decide +kernel
  obtain ⟨h0, h1⟩ := wn_bound x
  have HE : Hid (bits BinOp.or IntKind.u32 (wn x * 67108864 % 4294967296) (wn x / 64) = wn (rr x 6)) := Lib.hid (by
    have e1 := w_shl x 26
    have e2 := w_shr x 6
    rw [show ((2 ^ 26 : Nat) : Int) = 67108864 from rfl] at e1
    rw [show ((2 ^ 6 : Nat) : Int) = 64 from rfl] at e2
    rw [e1, e2, w_or]
    rfl)
  go_enter Tryd.func81, Tryd.ntmps81
  go_wp2
  go_ret
  exact ⟨by rw [← HE.out]; rfl, rfl⟩

set_option maxHeartbeats 800000 in
theorem rot11 (x : Wd) (w : World) : Calls Tryd.prog 81 #[.int .u32 (wn x), .int .i64 (-11)] w fun e w' => e = .returned (.int .u32 (wn (rr x 11))) ∧ w' = w := by
  have k1 : IntKind.u64.wrap (-11) = 18446744073709551605 := by decide
  have k2 : bits BinOp.and IntKind.u64 18446744073709551605 31 = 21 := by decide +kernel
  obtain ⟨h0, h1⟩ := wn_bound x
  have HE : Hid (bits BinOp.or IntKind.u32 (wn x * 2097152 % 4294967296) (wn x / 2048) = wn (rr x 11)) := Lib.hid (by
    have e1 := w_shl x 21
    have e2 := w_shr x 11
    rw [show ((2 ^ 21 : Nat) : Int) = 2097152 from rfl] at e1
    rw [show ((2 ^ 11 : Nat) : Int) = 2048 from rfl] at e2
    rw [e1, e2, w_or]
    rfl)
  go_enter Tryd.func81, Tryd.ntmps81
  go_wp2
  go_ret
  exact ⟨by rw [← HE.out]; rfl, rfl⟩

set_option maxHeartbeats 800000 in
theorem rot25 (x : Wd) (w : World) : Calls Tryd.prog 81 #[.int .u32 (wn x), .int .i64 (-25)] w fun e w' => e = .returned (.int .u32 (wn (rr x 25))) ∧ w' = w := by
  have k1 : IntKind.u64.wrap (-25) = 18446744073709551591 := by decide
  have k2 : bits BinOp.and IntKind.u64 18446744073709551591 31 = 7 := by decide +kernel
  obtain ⟨h0, h1⟩ := wn_bound x
  have HE : Hid (bits BinOp.or IntKind.u32 (wn x * 128 % 4294967296) (wn x / 33554432) = wn (rr x 25)) := Lib.hid (by
    have e1 := w_shl x 7
    have e2 := w_shr x 25
    rw [show ((2 ^ 7 : Nat) : Int) = 128 from rfl] at e1
    rw [show ((2 ^ 25 : Nat) : Int) = 33554432 from rfl] at e2
    rw [e1, e2, w_or]
    rfl)
  go_enter Tryd.func81, Tryd.ntmps81
  go_wp2
  go_ret
  exact ⟨by rw [← HE.out]; rfl, rfl⟩

set_option maxHeartbeats 800000 in
theorem rot2 (x : Wd) (w : World) : Calls Tryd.prog 81 #[.int .u32 (wn x), .int .i64 (-2)] w fun e w' => e = .returned (.int .u32 (wn (rr x 2))) ∧ w' = w := by
  have k1 : IntKind.u64.wrap (-2) = 18446744073709551614 := by decide
  have k2 : bits BinOp.and IntKind.u64 18446744073709551614 31 = 30 := by decide +kernel
  obtain ⟨h0, h1⟩ := wn_bound x
  have HE : Hid (bits BinOp.or IntKind.u32 (wn x * 1073741824 % 4294967296) (wn x / 4) = wn (rr x 2)) := Lib.hid (by
    have e1 := w_shl x 30
    have e2 := w_shr x 2
    rw [show ((2 ^ 30 : Nat) : Int) = 1073741824 from rfl] at e1
    rw [show ((2 ^ 2 : Nat) : Int) = 4 from rfl] at e2
    rw [e1, e2, w_or]
    rfl)
  go_enter Tryd.func81, Tryd.ntmps81
  go_wp2
  go_ret
  exact ⟨by rw [← HE.out]; rfl, rfl⟩

set_option maxHeartbeats 800000 in
theorem rot13 (x : Wd) (w : World) : Calls Tryd.prog 81 #[.int .u32 (wn x), .int .i64 (-13)] w fun e w' => e = .returned (.int .u32 (wn (rr x 13))) ∧ w' = w := by
  have k1 : IntKind.u64.wrap (-13) = 18446744073709551603 := by decide
  have k2 : bits BinOp.and IntKind.u64 18446744073709551603 31 = 19 := by decide +kernel
  obtain ⟨h0, h1⟩ := wn_bound x
  have HE : Hid (bits BinOp.or IntKind.u32 (wn x * 524288 % 4294967296) (wn x / 8192) = wn (rr x 13)) := Lib.hid (by
    have e1 := w_shl x 19
    have e2 := w_shr x 13
    rw [show ((2 ^ 19 : Nat) : Int) = 524288 from rfl] at e1
    rw [show ((2 ^ 13 : Nat) : Int) = 8192 from rfl] at e2
    rw [e1, e2, w_or]
    rfl)
  go_enter Tryd.func81, Tryd.ntmps81
  go_wp2
  go_ret
  exact ⟨by rw [← HE.out]; rfl, rfl⟩

set_option maxHeartbeats 800000 in
theorem rot22 (x : Wd) (w : World) : Calls Tryd.prog 81 #[.int .u32 (wn x), .int .i64 (-22)] w fun e w' => e = .returned (.int .u32 (wn (rr x 22))) ∧ w' = w := by
  have k1 : IntKind.u64.wrap (-22) = 18446744073709551594 := by decide
  have k2 : bits BinOp.and IntKind.u64 18446744073709551594 31 = 10 := by decide +kernel
  obtain ⟨h0, h1⟩ := wn_bound x
  have HE : Hid (bits BinOp.or IntKind.u32 (wn x * 1024 % 4294967296) (wn x / 4194304) = wn (rr x 22)) := Lib.hid (by
    have e1 := w_shl x 10
    have e2 := w_shr x 22
    rw [show ((2 ^ 10 : Nat) : Int) = 1024 from rfl] at e1
    rw [show ((2 ^ 22 : Nat) : Int) = 4194304 from rfl] at e2
    rw [e1, e2, w_or]
    rfl)
  go_enter Tryd.func81, Tryd.ntmps81
  go_wp2
  go_ret
  exact ⟨by rw [← HE.out]; rfl, rfl⟩

end Go.Proofs.YtcbkopjklbiheaaDoor
