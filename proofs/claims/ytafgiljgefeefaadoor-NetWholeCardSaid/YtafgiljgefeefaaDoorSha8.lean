/- Digests compared; sha.Sum; the examples. -/
import Derived.Test.YtafgiljgefeefaaDoorBase
import Derived.Test.YtafgiljgefeefaaDoorWhole0
import Derived.StillTailTactics
import Derived.Laws.CopyRow
import Derived.Laws.IdiomCopy
import Derived.Lib.SlBuf
import Derived.Laws.Tables
import Derived.Laws.Rows
import Derived.Laws.StructEq
namespace Go.Proofs.YtafgiljgefeefaaDoor
open Go.RowKit
set_option linter.unusedVariables false

abbrev Wd := BitVec 32
/-- A word as a number of the model. -/
def wn (x : Wd) : Int := (x.toNat : Int)
theorem wn_bound (x : Wd) : 0 ≤ wn x ∧ wn x < 4294967296 := by
  have := x.isLt
  unfold wn; omega
theorem wn_mk (n : Nat) (h : n < 4294967296) : wn (BitVec.ofNat 32 n) = (n : Int) := by
  unfold wn
  rw [BitVec.toNat_ofNat, Nat.mod_eq_of_lt (by omega)]
theorem ofInt_wn (x : Wd) : BitVec.ofInt 32 (wn x) = x := by
  apply BitVec.eq_of_toNat_eq
  rw [BitVec.toNat_ofInt]
  have := x.isLt
  unfold wn; omega
theorem wrap_wd (x : Wd) : IntKind.u32.wrap (x.toNat : Int) = wn x := by
  have h1 := x.isLt
  have h2 : IntKind.u32.wrap (x.toNat : Int) = (x.toNat : Int) % 4294967296 := rfl
  rw [h2]; unfold wn; omega
theorem w_xor (x y : Wd) : bits BinOp.xor IntKind.u32 (wn x) (wn y) = wn (x ^^^ y) := by
  have h : bits BinOp.xor IntKind.u32 (wn x) (wn y) = IntKind.u32.wrap ((BitVec.ofInt 32 (wn x) ^^^ BitVec.ofInt 32 (wn y)).toNat : Int) := rfl
  rw [h, ofInt_wn, ofInt_wn, wrap_wd]
theorem w_and (x y : Wd) : bits BinOp.and IntKind.u32 (wn x) (wn y) = wn (x &&& y) := by
  have h : bits BinOp.and IntKind.u32 (wn x) (wn y) = IntKind.u32.wrap ((BitVec.ofInt 32 (wn x) &&& BitVec.ofInt 32 (wn y)).toNat : Int) := rfl
  rw [h, ofInt_wn, ofInt_wn, wrap_wd]
theorem w_or (x y : Wd) : bits BinOp.or IntKind.u32 (wn x) (wn y) = wn (x ||| y) := by
  have h : bits BinOp.or IntKind.u32 (wn x) (wn y) = IntKind.u32.wrap ((BitVec.ofInt 32 (wn x) ||| BitVec.ofInt 32 (wn y)).toNat : Int) := rfl
  rw [h, ofInt_wn, ofInt_wn, wrap_wd]
theorem w_add (x y : Wd) : (wn x + wn y) % 4294967296 = wn (x + y) := by
  unfold wn
  rw [BitVec.toNat_add]
  omega
theorem w_wrap_add (x y : Wd) : IntKind.u32.wrap (wn x + wn y) = wn (x + y) := w_add x y
theorem w_shr (x : Wd) (k : Nat) : wn x / ((2 ^ k : Nat) : Int) = wn (x >>> k) := by
  unfold wn
  rw [BitVec.toNat_ushiftRight, Nat.shiftRight_eq_div_pow]
  norm_cast
theorem w_shl (x : Wd) (k : Nat) : wn x * ((2 ^ k : Nat) : Int) % 4294967296 = wn (x <<< k) := by
  unfold wn
  rw [BitVec.toNat_shiftLeft, Nat.shiftLeft_eq]
  show _ = ((x.toNat * 2 ^ k % 4294967296 : Nat) : Int)
  rw [Int.natCast_emod, Int.natCast_mul]
  rfl
def rr (x : Wd) (r : Nat) : Wd := (x <<< (32 - r)) ||| (x >>> r)

set_option maxHeartbeats 800000 in
theorem rot7 (x : Wd) (w : World) : Calls Tryd.prog 69 #[.int .u32 (wn x), .int .i64 (-7)] w fun e w' => e = .returned (.int .u32 (wn (rr x 7))) ∧ w' = w := by
  have k1 : IntKind.u64.wrap (-7) = 18446744073709551609 := by decide
  have k2 : bits BinOp.and IntKind.u64 18446744073709551609 31 = 25 := by decide +kernel
  obtain ⟨h0, h1⟩ := wn_bound x
  have HE : Hid (bits BinOp.or IntKind.u32 (wn x * 33554432 % 4294967296) (wn x / 128) = wn (rr x 7)) := Lib.hid (by
    have e1 := w_shl x 25
    have e2 := w_shr x 7
    rw [show ((2 ^ 25 : Nat) : Int) = 33554432 from rfl] at e1
    rw [show ((2 ^ 7 : Nat) : Int) = 128 from rfl] at e2
    rw [e1, e2, w_or]
    rfl)
  go_enter Tryd.func69, Tryd.ntmps69
  go_wp2
  go_ret
  exact ⟨by rw [← HE.out]; rfl, rfl⟩

set_option maxHeartbeats 800000 in
theorem rot18 (x : Wd) (w : World) : Calls Tryd.prog 69 #[.int .u32 (wn x), .int .i64 (-18)] w fun e w' => e = .returned (.int .u32 (wn (rr x 18))) ∧ w' = w := by
  have k1 : IntKind.u64.wrap (-18) = 18446744073709551598 := by decide
  have k2 : bits BinOp.and IntKind.u64 18446744073709551598 31 = 14 := by decide +kernel
  obtain ⟨h0, h1⟩ := wn_bound x
  have HE : Hid (bits BinOp.or IntKind.u32 (wn x * 16384 % 4294967296) (wn x / 262144) = wn (rr x 18)) := Lib.hid (by
    have e1 := w_shl x 14
    have e2 := w_shr x 18
    rw [show ((2 ^ 14 : Nat) : Int) = 16384 from rfl] at e1
    rw [show ((2 ^ 18 : Nat) : Int) = 262144 from rfl] at e2
    rw [e1, e2, w_or]
    rfl)
  go_enter Tryd.func69, Tryd.ntmps69
  go_wp2
  go_ret
  exact ⟨by rw [← HE.out]; rfl, rfl⟩

set_option maxHeartbeats 800000 in
theorem rot17 (x : Wd) (w : World) : Calls Tryd.prog 69 #[.int .u32 (wn x), .int .i64 (-17)] w fun e w' => e = .returned (.int .u32 (wn (rr x 17))) ∧ w' = w := by
  have k1 : IntKind.u64.wrap (-17) = 18446744073709551599 := by decide
  have k2 : bits BinOp.and IntKind.u64 18446744073709551599 31 = 15 := by decide +kernel
  obtain ⟨h0, h1⟩ := wn_bound x
  have HE : Hid (bits BinOp.or IntKind.u32 (wn x * 32768 % 4294967296) (wn x / 131072) = wn (rr x 17)) := Lib.hid (by
    have e1 := w_shl x 15
    have e2 := w_shr x 17
    rw [show ((2 ^ 15 : Nat) : Int) = 32768 from rfl] at e1
    rw [show ((2 ^ 17 : Nat) : Int) = 131072 from rfl] at e2
    rw [e1, e2, w_or]
    rfl)
  go_enter Tryd.func69, Tryd.ntmps69
  go_wp2
  go_ret
  exact ⟨by rw [← HE.out]; rfl, rfl⟩

set_option maxHeartbeats 800000 in
theorem rot19 (x : Wd) (w : World) : Calls Tryd.prog 69 #[.int .u32 (wn x), .int .i64 (-19)] w fun e w' => e = .returned (.int .u32 (wn (rr x 19))) ∧ w' = w := by
  have k1 : IntKind.u64.wrap (-19) = 18446744073709551597 := by decide
  have k2 : bits BinOp.and IntKind.u64 18446744073709551597 31 = 13 := by decide +kernel
  obtain ⟨h0, h1⟩ := wn_bound x
  have HE : Hid (bits BinOp.or IntKind.u32 (wn x * 8192 % 4294967296) (wn x / 524288) = wn (rr x 19)) := Lib.hid (by
    have e1 := w_shl x 13
    have e2 := w_shr x 19
    rw [show ((2 ^ 13 : Nat) : Int) = 8192 from rfl] at e1
    rw [show ((2 ^ 19 : Nat) : Int) = 524288 from rfl] at e2
    rw [e1, e2, w_or]
    rfl)
  go_enter Tryd.func69, Tryd.ntmps69
  go_wp2
  go_ret
  exact ⟨by rw [← HE.out]; rfl, rfl⟩

set_option maxHeartbeats 800000 in
theorem rot6 (x : Wd) (w : World) : Calls Tryd.prog 69 #[.int .u32 (wn x), .int .i64 (-6)] w fun e w' => e = .returned (.int .u32 (wn (rr x 6))) ∧ w' = w := by
  have k1 : IntKind.u64.wrap (-6) = 18446744073709551610 := by decide
  have k2 : bits BinOp.and IntKind.u64 18446744073709551610 31 = 26 := by decide +kernel
  obtain ⟨h0, h1⟩ := wn_bound x
  have HE : Hid (bits BinOp.or IntKind.u32 (wn x * 67108864 % 4294967296) (wn x / 64) = wn (rr x 6)) := Lib.hid (by
    have e1 := w_shl x 26
    have e2 := w_shr x 6
    rw [show ((2 ^ 26 : Nat) : Int) = 67108864 from rfl] at e1
    rw [show ((2 ^ 6 : Nat) : Int) = 64 from rfl] at e2
    rw [e1, e2, w_or]
    rfl)
  go_enter Tryd.func69, Tryd.ntmps69
  go_wp2
  go_ret
  exact ⟨by rw [← HE.out]; rfl, rfl⟩

set_option maxHeartbeats 800000 in
theorem rot11 (x : Wd) (w : World) : Calls Tryd.prog 69 #[.int .u32 (wn x), .int .i64 (-11)] w fun e w' => e = .returned (.int .u32 (wn (rr x 11))) ∧ w' = w := by
  have k1 : IntKind.u64.wrap (-11) = 18446744073709551605 := by decide
  have k2 : bits BinOp.and IntKind.u64 18446744073709551605 31 = 21 := by decide +kernel
  obtain ⟨h0, h1⟩ := wn_bound x
  have HE : Hid (bits BinOp.or IntKind.u32 (wn x * 2097152 % 4294967296) (wn x / 2048) = wn (rr x 11)) := Lib.hid (by
    have e1 := w_shl x 21
    have e2 := w_shr x 11
    rw [show ((2 ^ 21 : Nat) : Int) = 2097152 from rfl] at e1
    rw [show ((2 ^ 11 : Nat) : Int) = 2048 from rfl] at e2
    rw [e1, e2, w_or]
    rfl)
  go_enter Tryd.func69, Tryd.ntmps69
  go_wp2
  go_ret
  exact ⟨by rw [← HE.out]; rfl, rfl⟩

set_option maxHeartbeats 800000 in
theorem rot25 (x : Wd) (w : World) : Calls Tryd.prog 69 #[.int .u32 (wn x), .int .i64 (-25)] w fun e w' => e = .returned (.int .u32 (wn (rr x 25))) ∧ w' = w := by
  have k1 : IntKind.u64.wrap (-25) = 18446744073709551591 := by decide
  have k2 : bits BinOp.and IntKind.u64 18446744073709551591 31 = 7 := by decide +kernel
  obtain ⟨h0, h1⟩ := wn_bound x
  have HE : Hid (bits BinOp.or IntKind.u32 (wn x * 128 % 4294967296) (wn x / 33554432) = wn (rr x 25)) := Lib.hid (by
    have e1 := w_shl x 7
    have e2 := w_shr x 25
    rw [show ((2 ^ 7 : Nat) : Int) = 128 from rfl] at e1
    rw [show ((2 ^ 25 : Nat) : Int) = 33554432 from rfl] at e2
    rw [e1, e2, w_or]
    rfl)
  go_enter Tryd.func69, Tryd.ntmps69
  go_wp2
  go_ret
  exact ⟨by rw [← HE.out]; rfl, rfl⟩

set_option maxHeartbeats 800000 in
theorem rot2 (x : Wd) (w : World) : Calls Tryd.prog 69 #[.int .u32 (wn x), .int .i64 (-2)] w fun e w' => e = .returned (.int .u32 (wn (rr x 2))) ∧ w' = w := by
  have k1 : IntKind.u64.wrap (-2) = 18446744073709551614 := by decide
  have k2 : bits BinOp.and IntKind.u64 18446744073709551614 31 = 30 := by decide +kernel
  obtain ⟨h0, h1⟩ := wn_bound x
  have HE : Hid (bits BinOp.or IntKind.u32 (wn x * 1073741824 % 4294967296) (wn x / 4) = wn (rr x 2)) := Lib.hid (by
    have e1 := w_shl x 30
    have e2 := w_shr x 2
    rw [show ((2 ^ 30 : Nat) : Int) = 1073741824 from rfl] at e1
    rw [show ((2 ^ 2 : Nat) : Int) = 4 from rfl] at e2
    rw [e1, e2, w_or]
    rfl)
  go_enter Tryd.func69, Tryd.ntmps69
  go_wp2
  go_ret
  exact ⟨by rw [← HE.out]; rfl, rfl⟩

set_option maxHeartbeats 800000 in
theorem rot13 (x : Wd) (w : World) : Calls Tryd.prog 69 #[.int .u32 (wn x), .int .i64 (-13)] w fun e w' => e = .returned (.int .u32 (wn (rr x 13))) ∧ w' = w := by
  have k1 : IntKind.u64.wrap (-13) = 18446744073709551603 := by decide
  have k2 : bits BinOp.and IntKind.u64 18446744073709551603 31 = 19 := by decide +kernel
  obtain ⟨h0, h1⟩ := wn_bound x
  have HE : Hid (bits BinOp.or IntKind.u32 (wn x * 524288 % 4294967296) (wn x / 8192) = wn (rr x 13)) := Lib.hid (by
    have e1 := w_shl x 19
    have e2 := w_shr x 13
    rw [show ((2 ^ 19 : Nat) : Int) = 524288 from rfl] at e1
    rw [show ((2 ^ 13 : Nat) : Int) = 8192 from rfl] at e2
    rw [e1, e2, w_or]
    rfl)
  go_enter Tryd.func69, Tryd.ntmps69
  go_wp2
  go_ret
  exact ⟨by rw [← HE.out]; rfl, rfl⟩

set_option maxHeartbeats 800000 in
theorem rot22 (x : Wd) (w : World) : Calls Tryd.prog 69 #[.int .u32 (wn x), .int .i64 (-22)] w fun e w' => e = .returned (.int .u32 (wn (rr x 22))) ∧ w' = w := by
  have k1 : IntKind.u64.wrap (-22) = 18446744073709551594 := by decide
  have k2 : bits BinOp.and IntKind.u64 18446744073709551594 31 = 10 := by decide +kernel
  obtain ⟨h0, h1⟩ := wn_bound x
  have HE : Hid (bits BinOp.or IntKind.u32 (wn x * 1024 % 4294967296) (wn x / 4194304) = wn (rr x 22)) := Lib.hid (by
    have e1 := w_shl x 10
    have e2 := w_shr x 22
    rw [show ((2 ^ 10 : Nat) : Int) = 1024 from rfl] at e1
    rw [show ((2 ^ 22 : Nat) : Int) = 4194304 from rfl] at e2
    rw [e1, e2, w_or]
    rfl)
  go_enter Tryd.func69, Tryd.ntmps69
  go_wp2
  go_ret
  exact ⟨by rw [← HE.out]; rfl, rfl⟩

end Go.Proofs.YtafgiljgefeefaaDoor
namespace Go.Proofs.YtafgiljgefeefaaDoor
open Go.RowKit
set_option linter.unusedVariables false

/-- Words as cells. -/
def u32s (l : List Wd) : List Value := l.map fun x => .int .u32 (wn x)
theorem u32s_length (l : List Wd) : (u32s l).length = l.length := by simp [u32s]
theorem u32s_get (l : List Wd) (i : Nat) (h : i < l.length) : (u32s l)[i]? = some (.int .u32 (wn l[i])) := by simp [u32s, h]
theorem u32s_set (l : List Wd) (i : Nat) (x : Wd) : u32s (l.set i x) = (u32s l).set i (.int .u32 (wn x)) := by simp [u32s, List.map_set]

theorem wrap_wn (x : Wd) : IntKind.u32.wrap (wn x) = wn x := wrap_wd x
theorem w_shl24 (x : Wd) : IntKind.u32.wrap (wn x * 16777216) = wn (x <<< 24) := w_shl x 24
theorem w_shl16 (x : Wd) : IntKind.u32.wrap (wn x * 65536) = wn (x <<< 16) := w_shl x 16
theorem w_shl8 (x : Wd) : IntKind.u32.wrap (wn x * 256) = wn (x <<< 8) := w_shl x 8
theorem w_shr3 (x : Wd) : wn x / (8 : Int) = wn (x >>> 3) := w_shr x 3
theorem w_shr10 (x : Wd) : wn x / (1024 : Int) = wn (x >>> 10) := w_shr x 10

theorem w_add3 (x y z : Wd) : (wn x + wn y + wn z) % 4294967296 = wn (x + y + z) := by
  rw [← w_add (x + y) z, ← w_add x y]; omega
theorem w_add4 (x y z u : Wd) : (wn x + wn y + wn z + wn u) % 4294967296 = wn (x + y + z + u) := by
  rw [← w_add (x + y + z) u, ← w_add3 x y z]; omega
theorem w_add5 (x y z u v : Wd) : (wn x + wn y + wn z + wn u + wn v) % 4294967296 = wn (x + y + z + u + v) := by
  rw [← w_add (x + y + z + u) v, ← w_add4 x y z u]; omega

theorem w_not (x : Wd) : bits BinOp.xor IntKind.u32 4294967295 (wn x) = wn (~~~ x) := by
  have h : (4294967295 : Int) = wn (BitVec.allOnes 32) := by decide +kernel
  rw [h, w_xor, BitVec.allOnes_xor]

theorem w_notI (x : Wd) : bits BinOp.xor IntKind.u32 (if IntKind.u32.signed = true then -1 else IntKind.u32.max) (wn x) = wn (~~~ x) := w_not x

/-- A byte as a word. -/
def ext (b : UInt8) : Wd := BitVec.ofNat 32 b.toNat
theorem ext_wn (b : UInt8) : (b.toNat : Int) = wn (ext b) := by
  have := b.toNat_lt
  unfold ext; rw [wn_mk _ (by omega)]
theorem ext_small (b : UInt8) : wn (ext b) < 256 := by
  have := b.toNat_lt
  rw [← ext_wn]; omega
/-- Four bytes as a word. -/
def word4 (b0 b1 b2 b3 : UInt8) : Wd := ((ext b0 <<< 24 ||| ext b1 <<< 16) ||| ext b2 <<< 8) ||| ext b3
/-- The sixteen words of a chunk. -/
def words16 (ch : List UInt8) : List Wd := (List.range 16).map fun i => word4 (ch.getD (4 * i) 0) (ch.getD (4 * i + 1) 0) (ch.getD (4 * i + 2) 0) (ch.getD (4 * i + 3) 0)
theorem words16_length (ch : List UInt8) : (words16 ch).length = 16 := by simp [words16]
theorem words16_get (ch : List UInt8) (i : Nat) (h : i < 16) : (words16 ch)[i]'(by rw [words16_length]; exact h) = word4 (ch.getD (4 * i) 0) (ch.getD (4 * i + 1) 0) (ch.getD (4 * i + 2) 0) (ch.getD (4 * i + 3) 0) := by simp [words16]
/-- A list's beginning, noughts behind. -/
def upTo (l : List Wd) (i n : Nat) : List Wd := l.take i ++ List.replicate (n - i) 0
theorem upTo_length (l : List Wd) (i n : Nat) (h : i ≤ l.length) (hn : i ≤ n) : (upTo l i n).length = n := by
  unfold upTo; rw [List.length_append, List.length_take, List.length_replicate]; omega
theorem upTo_succ (l : List Wd) (i n : Nat) (h : i < l.length) (hn : i < n) : (upTo l i n).set i l[i] = upTo l (i + 1) n := by
  unfold upTo
  have hl : (l.take i).length = i := by rw [List.length_take]; omega
  rw [List.set_append_right _ _ (by omega), hl, Nat.sub_self, List.take_succ_eq_append_getElem h, List.append_assoc]
  obtain ⟨m, hm⟩ : ∃ m, n - i = m + 1 := ⟨n - i - 1, by omega⟩
  rw [hm, show n - (i + 1) = m from by omega, List.replicate_succ, List.set_cons_zero]
  rfl
theorem upTo_get (l : List Wd) (i n j : Nat) (h : i ≤ l.length) (hn : i ≤ n) (hj : j < i) : (upTo l i n)[j]? = some (l[j]'(by omega)) := by
  unfold upTo
  rw [List.getElem?_append_left (by rw [List.length_take]; omega), List.getElem?_take_of_lt hj, List.getElem?_eq_getElem]

def sig0 (x : Wd) : Wd := (rr x 7 ^^^ rr x 18) ^^^ x >>> 3
def sig1 (x : Wd) : Wd := (rr x 17 ^^^ rr x 19) ^^^ x >>> 10
/-- The word behind some. -/
def nextW (l : List Wd) : Wd := ((l.getD (l.length - 16) 0 + l.getD (l.length - 7) 0) + sig0 (l.getD (l.length - 15) 0)) + sig1 (l.getD (l.length - 2) 0)
def sched (ch : List UInt8) : Nat → List Wd
  | 0 => words16 ch
  | k + 1 => sched ch k ++ [nextW (sched ch k)]
theorem sched_length (ch : List UInt8) : ∀ k, (sched ch k).length = 16 + k
  | 0 => words16_length ch
  | k + 1 => by simp [sched, sched_length ch k]; omega
/-- Words, noughts behind, as many as are given. -/
def fill (l : List Wd) (n : Nat) : List Wd := l ++ List.replicate (n - l.length) 0
theorem fill_length (l : List Wd) (n : Nat) (h : l.length ≤ n) : (fill l n).length = n := by unfold fill; rw [List.length_append, List.length_replicate]; omega
theorem fill_snoc (l : List Wd) (n : Nat) (h : l.length < n) (x : Wd) : (fill l n).set l.length x = fill (l ++ [x]) n := by
  unfold fill
  rw [List.set_append_right _ _ (Nat.le_refl _), Nat.sub_self]
  obtain ⟨m, hm⟩ : ∃ m, n - l.length = m + 1 := ⟨n - l.length - 1, by omega⟩
  rw [hm, List.replicate_succ, List.set_cons_zero, List.length_append, List.length_singleton, show n - (l.length + 1) = m from by omega, List.append_assoc]
  rfl
theorem fill_get (l : List Wd) (n j : Nat) (h : j < l.length) : (fill l n)[j]? = some (l.getD j 0) := by
  unfold fill
  rw [List.getElem?_append_left h, List.getElem?_eq_getElem h]
  simp [List.getD, h]

/-- The round numbers. -/
def roundKs : List Wd := [1116352408, 1899447441, 3049323471, 3921009573, 961987163, 1508970993, 2453635748, 2870763221, 3624381080, 310598401, 607225278, 1426881987, 1925078388, 2162078206, 2614888103, 3248222580, 3835390401, 4022224774, 264347078, 604807628, 770255983, 1249150122, 1555081692, 1996064986, 2554220882, 2821834349, 2952996808, 3210313671, 3336571891, 3584528711, 113926993, 338241895, 666307205, 773529912, 1294757372, 1396182291, 1695183700, 1986661051, 2177026350, 2456956037, 2730485921, 2820302411, 3259730800, 3345764771, 3516065817, 3600352804, 4094571909, 275423344, 430227734, 506948616, 659060556, 883997877, 958139571, 1322822218, 1537002063, 1747873779, 1955562222, 2024104815, 2227730452, 2361852424, 2428436474, 2756734187, 3204031479, 3329325298]
theorem roundKs_length : roundKs.length = 64 := rfl

/-- The eight words. -/
structure St where
  a : Wd
  b : Wd
  c : Wd
  d : Wd
  e : Wd
  f : Wd
  g : Wd
  h : Wd
def chW (e f g : Wd) : Wd := (e &&& f) ^^^ (~~~ e &&& g)
def majW (a b c : Wd) : Wd := ((a &&& b) ^^^ (a &&& c)) ^^^ (b &&& c)
def bs1 (e : Wd) : Wd := (rr e 6 ^^^ rr e 11) ^^^ rr e 25
def bs0 (a : Wd) : Wd := (rr a 2 ^^^ rr a 13) ^^^ rr a 22
def pW (s : St) (k x : Wd) : Wd := (((s.h + k) + x) + chW s.e s.f s.g) + bs1 s.e
def qW (s : St) : Wd := majW s.a s.b s.c + bs0 s.a
def step (s : St) (k x : Wd) : St := ⟨pW s k x + qW s, s.a, s.b, s.c, s.d + pW s k x, s.e, s.f, s.g⟩
def rounds (s : St) (l : List Wd) : Nat → St
  | 0 => s
  | t + 1 => step (rounds s l t) (roundKs.getD t 0) (l.getD t 0)
def St.list (s : St) : List Wd := [s.a, s.b, s.c, s.d, s.e, s.f, s.g, s.h]
def St.add (s t : St) : St := ⟨s.a + t.a, s.b + t.b, s.c + t.c, s.d + t.d, s.e + t.e, s.f + t.f, s.g + t.g, s.h + t.h⟩
/-- A chunk, mixed into the eight words. -/
def mixed (s : St) (ch : List UInt8) : St := s.add (rounds s (sched ch 48) 64)

/-- The cells of a hasher. -/
def hcells (s : St) (ch : List UInt8) (n : Nat) : List Value := u32s s.list ++ u8s ch ++ [.int .u64 (n : Int)]
theorem hcells_word (s : St) (ch : List UInt8) (n i : Nat) (h : i < 8) : (hcells s ch n)[i]? = some (.int .u32 (wn (s.list.getD i 0))) := by
  unfold hcells
  rw [List.append_assoc, List.getElem?_append_left (by rw [u32s_length]; exact h), u32s_get _ _ h]
  simp [List.getD, show i < s.list.length from h]
  rfl
theorem hcells_byte (s : St) (ch : List UInt8) (n i : Nat) (hl : ch.length = 64) (h : i < 64) : (hcells s ch n)[8 + i]? = some (.int .u8 ((ch.getD i 0).toNat : Int)) := by
  unfold hcells
  have h8 : (u32s s.list).length = 8 := rfl
  rw [List.append_assoc, List.getElem?_append_right (by omega), h8, Nat.add_sub_cancel_left, List.getElem?_append_left (by rw [u8s_length]; omega), u8s_get _ _ (by omega)]
theorem hcells_count (s : St) (ch : List UInt8) (n : Nat) (hl : ch.length = 64) : (hcells s ch n)[72]? = some (.int .u64 (n : Int)) := by
  unfold hcells
  have h8 : (u32s s.list).length = 8 := rfl
  rw [List.getElem?_append_right (by rw [List.length_append, u8s_length, h8, hl]; omega), List.length_append, u8s_length, h8, hl]
  rfl
theorem hcells_length (s : St) (ch : List UInt8) (n : Nat) (hl : ch.length = 64) : (hcells s ch n).length = 73 := by
  unfold hcells
  rw [List.length_append, List.length_append, u8s_length, hl]
  rfl

theorem hcells_def (s : St) (ch : List UInt8) (n : Nat) : hcells s ch n = u32s s.list ++ (u8s ch ++ [.int .u64 (n : Int)]) := by unfold hcells; rw [List.append_assoc]
/-- The words while they are added to, one by one. -/
def addUp (s r : St) (i : Nat) : List Wd := (s.add r).list.take i ++ s.list.drop i
theorem addUp_length (s r : St) (i : Nat) (h : i ≤ 8) : (addUp s r i).length = 8 := by
  unfold addUp
  have h1 : (s.add r).list.length = 8 := rfl
  have h2 : s.list.length = 8 := rfl
  rw [List.length_append, List.length_take, List.length_drop, h1, h2]; omega
theorem addUp_zero (s r : St) : addUp s r 0 = s.list := rfl
theorem addUp_all (s r : St) : addUp s r 8 = (s.add r).list := rfl
theorem addUp_get (s r : St) (i : Nat) (h : i < 8) : (addUp s r i)[i]? = some (s.list.getD i 0) := by
  rcases (by omega : i = 0 ∨ i = 1 ∨ i = 2 ∨ i = 3 ∨ i = 4 ∨ i = 5 ∨ i = 6 ∨ i = 7) with rfl | rfl | rfl | rfl | rfl | rfl | rfl | rfl <;> rfl
theorem addUp_set (s r : St) (i : Nat) (h : i < 8) : (addUp s r i).set i (s.list.getD i 0 + r.list.getD i 0) = addUp s r (i + 1) := by
  rcases (by omega : i = 0 ∨ i = 1 ∨ i = 2 ∨ i = 3 ∨ i = 4 ∨ i = 5 ∨ i = 6 ∨ i = 7) with rfl | rfl | rfl | rfl | rfl | rfl | rfl | rfl <;> rfl
theorem words_set (l : List Wd) (rest : List Value) (i : Nat) (h : i < l.length) (x : Wd) : (u32s l ++ rest).set i (.int .u32 (wn x)) = u32s (l.set i x) ++ rest := by
  rw [List.set_append_left _ _ (by rw [u32s_length]; exact h), u32s_set]
theorem words_get (l : List Wd) (rest : List Value) (i : Nat) (x : Wd) (h : l[i]? = some x) : (u32s l ++ rest)[i]? = some (.int .u32 (wn x)) := by
  have hl := (List.getElem?_eq_some_iff.1 h).1
  rw [List.getElem?_append_left (by rw [u32s_length]; exact hl), u32s, List.getElem?_map, h]; rfl

end Go.Proofs.YtafgiljgefeefaaDoor
namespace Go.Proofs.YtafgiljgefeefaaDoor
open Go.RowKit
set_option linter.unusedVariables false

set_option maxRecDepth 100000 in
set_option maxHeartbeats 25600000 in
theorem mix_any (B n : Nat) (s : St) (ch : List UInt8) (w : World) (hw : Whole w B 116 (hcells s ch n)) (hl : ch.length = 64) (hB : 0 < B)
    (hK : ∀ t, t < 64 → w.cell? ⟨0, t, none⟩ = some (.int .u32 (wn (roundKs.getD t 0)))) :
    Calls Tryd.prog 66 #[.pointer (some ⟨B, 0, none⟩), .pointer (some ⟨B, 8, none⟩)] w fun e w' => e = .returned (.tuple #[]) ∧ Whole w' B 116 (hcells (mixed s ch) ch n) ∧ Keeps (fun k => k = B) w w' := by
  have HW := Lib.hid hw
  have HK := Lib.hid hK
  have HL := Lib.hid hl
  have hBl := hw.lt
  clear hw hK hl
  go_enter Tryd.func66, Tryd.ntmps66
  go_wp2
  go_loopw [22] (fun i wr => ∃ j : Nat, j ≤ 16 ∧ i = .int .i64 j ∧ Whole wr w.heap.size 121 (u32s (upTo (words16 ch) j 64)) ∧ Same w wr) (fun i _ => 16 - (intOf i).toNat)
  case atStart => exact ⟨0, by omega, rfl, heap_alloc_new _ _, (Keeps.refl _ _).alloc _⟩
  case round =>
    obtain ⟨j, hj, rfl, hx, hs⟩ := hrel
    have HX := Lib.hid hx
    have HS := Lib.hid hs
    have hwr := hx.lt
    clear hx hs
    by_cases hlt : j < 16
    · have c0 := (HW.out.keep HS.out (fun e => e)).cell (hcells_byte s ch n (4 * j) HL.out (by omega))
      have c1 := (HW.out.keep HS.out (fun e => e)).cell (hcells_byte s ch n (4 * j + 1) HL.out (by omega))
      have c2 := (HW.out.keep HS.out (fun e => e)).cell (hcells_byte s ch n (4 * j + 2) HL.out (by omega))
      have c3 := (HW.out.keep HS.out (fun e => e)).cell (hcells_byte s ch n (4 * j + 3) HL.out (by omega))
      have HW4 : Hid ((words16 ch)[j]'(by rw [words16_length]; exact hlt) = word4 (ch.getD (4 * j) 0) (ch.getD (4 * j + 1) 0) (ch.getD (4 * j + 2) 0) (ch.getD (4 * j + 3) 0)) := Lib.hid (words16_get ch j hlt)
      rw [ext_wn] at c0 c1 c2 c3
      have x0 := ext_small (ch.getD (4 * j) 0)
      have x1 := ext_small (ch.getD (4 * j + 1) 0)
      have x2 := ext_small (ch.getD (4 * j + 2) 0)
      have x3 := ext_small (ch.getD (4 * j + 3) 0)
      generalize ch.getD (4 * j) 0 = b0 at *
      generalize ch.getD (4 * j + 1) 0 = b1 at *
      generalize ch.getD (4 * j + 2) 0 = b2 at *
      generalize ch.getD (4 * j + 3) 0 = b3 at *
      have y0 := (wn_bound (ext b0)).1
      have y1 := (wn_bound (ext b1)).1
      have y2 := (wn_bound (ext b2)).1
      have y3 := (wn_bound (ext b3)).1
      have w4 : IntKind.i64.wrap (4 * (j : Int)) = 4 * (j : Int) := IntWalk.i64_in _ (by omega)
      have w5 : IntKind.i64.wrap (4 * (j : Int) + 1) = 4 * (j : Int) + 1 := IntWalk.i64_in _ (by omega)
      have w6 : IntKind.i64.wrap (4 * (j : Int) + 2) = 4 * (j : Int) + 2 := IntWalk.i64_in _ (by omega)
      have w7 : IntKind.i64.wrap (4 * (j : Int) + 3) = 4 * (j : Int) + 3 := IntWalk.i64_in _ (by omega)
      have p0 : (0 : Int) ≤ 4 * (j : Int) := by omega
      have q0 : 4 * (j : Int) < 64 := by omega
      have p1 : (0 : Int) ≤ 4 * (j : Int) + 1 := by omega
      have q1 : 4 * (j : Int) + 1 < 64 := by omega
      have p2 : (0 : Int) ≤ 4 * (j : Int) + 2 := by omega
      have q2 : 4 * (j : Int) + 2 < 64 := by omega
      have p3 : (0 : Int) ≤ 4 * (j : Int) + 3 := by omega
      have q3 : 4 * (j : Int) + 3 < 64 := by omega
      have t0 : (4 * (j : Int)).toNat = 4 * j := by omega
      have t1 : (4 * (j : Int) + 1).toNat = 4 * j + 1 := by omega
      have t2 : (4 * (j : Int) + 2).toNat = 4 * j + 2 := by omega
      have t3 : (4 * (j : Int) + 3).toNat = 4 * j + 3 := by omega
      have hx0 := HX.out.cell (i := j) (u32s_get _ _ (by rw [upTo_length _ _ _ (by rw [words16_length]; omega) (by omega)]; omega))
      have hf0 := HX.out.free j
      have j0 : (0 : Int) ≤ (j : Int) := by omega
      have j1 : (j : Int) < 64 := by omega
      go_wp2
      go_still_tail 39, (by kernel_rfl)
      change wpList _ _ _ _ _ wr.drew
      clear c0 c1 c2 c3 x0 x1 x2 x3 y0 y1 y2 y3 w4 w5 w6 w7 p0 q0 p1 q1 p2 q2 p3 q3 t0 t1 t2 t3
      simp only [wrap_wn, w_shl24, w_shl16, w_shl8, w_or]
      go_wp2
      go_roundw
      case rel =>
        refine ⟨j + 1, by omega, by go_num, ?_, HS.out.drew.setCell _ _ (.inl (Nat.le_refl _))⟩
        rw [← upTo_succ _ _ _ (by rw [words16_length]; exact hlt) (by omega), u32s_set, HW4.out]
        exact HX.out.set _ _
      case measure => simp [intOf]; omega
    · obtain rfl : j = 16 := by omega
      have HX2 : Hid (Whole wr w.heap.size 121 (u32s (fill (sched ch 0) 64))) := Lib.hid (by
        have := HX.out
        have e : upTo (words16 ch) 16 64 = fill (sched ch 0) 64 := by
          unfold upTo fill
          rw [List.take_of_length_le (by rw [words16_length]; omega)]
          simp [sched, words16_length]
        rwa [e] at this)
      clear HX
      go_wp2
      go_loopw [6] (fun i w2 => ∃ k : Nat, k ≤ 48 ∧ i = .int .i64 ((16 + k : Nat) : Int) ∧ Whole w2 w.heap.size 121 (u32s (fill (sched ch k) 64)) ∧ Same w w2) (fun i _ => 64 - (intOf i).toNat)
      case atStart => exact ⟨0, by omega, rfl, HX2.out, HS.out⟩
      case round =>
        obtain ⟨k, hk, rfl, hx, hs⟩ := hrel
        clear HX2 HS hwr
        obtain ⟨wq, rfl⟩ : ∃ wq : World, wq = wr := ⟨_, rfl⟩
        have HX := Lib.hid hx
        have HS := Lib.hid hs
        have hwq := hx.lt
        clear hx hs
        have hsl := sched_length ch k
        by_cases hlt2 : k < 48
        · have g16 := HX.out.cell (i := k) (u32s_get _ _ (by rw [fill_length _ _ (by omega)]; omega))
          have f16 := fill_get (sched ch k) 64 k (by omega)
          have f15 := fill_get (sched ch k) 64 (k + 1) (by omega)
          have f7 := fill_get (sched ch k) 64 (k + 9) (by omega)
          have f2 := fill_get (sched ch k) 64 (k + 14) (by omega)
          have c16 : wq.cell? ⟨w.heap.size, k, none⟩ = some (.int .u32 (wn ((sched ch k).getD k 0))) := HX.out.cell (by rw [u32s, List.getElem?_map, f16]; rfl)
          have c15 : wq.cell? ⟨w.heap.size, k + 1, none⟩ = some (.int .u32 (wn ((sched ch k).getD (k + 1) 0))) := HX.out.cell (by rw [u32s, List.getElem?_map, f15]; rfl)
          have c7 : wq.cell? ⟨w.heap.size, k + 9, none⟩ = some (.int .u32 (wn ((sched ch k).getD (k + 9) 0))) := HX.out.cell (by rw [u32s, List.getElem?_map, f7]; rfl)
          have c2 : wq.cell? ⟨w.heap.size, k + 14, none⟩ = some (.int .u32 (wn ((sched ch k).getD (k + 14) 0))) := HX.out.cell (by rw [u32s, List.getElem?_map, f2]; rfl)
          have cd := HX.out.cell (i := 16 + k) (v := .int .u32 (wn ((fill (sched ch k) 64).getD (16 + k) 0))) (by
            rw [u32s_get _ _ (by rw [fill_length _ _ (by omega)]; omega)]
            simp [List.getD, show 16 + k < (fill (sched ch k) 64).length from by rw [fill_length _ _ (by omega)]; omega])
          have hf0 := HX.out.free (16 + k)
          have HN : Hid (nextW (sched ch k) = (((sched ch k).getD k 0 + (sched ch k).getD (k + 9) 0) + sig0 ((sched ch k).getD (k + 1) 0)) + sig1 ((sched ch k).getD (k + 14) 0)) := Lib.hid (by
            unfold nextW
            rw [hsl, show 16 + k - 16 = k from by omega, show 16 + k - 7 = k + 9 from by omega, show 16 + k - 15 = k + 1 from by omega, show 16 + k - 2 = k + 14 from by omega])
          have HSL := Lib.hid hsl
          generalize (sched ch k).getD k 0 = x16 at *
          generalize (sched ch k).getD (k + 1) 0 = x15 at *
          generalize (sched ch k).getD (k + 9) 0 = x7 at *
          generalize (sched ch k).getD (k + 14) 0 = x2 at *
          generalize (fill (sched ch k) 64).getD (16 + k) 0 = xd at *
          clear f16 f15 f7 f2 hsl g16
          obtain ⟨m, hm⟩ : ∃ m : Nat, 16 + k = m := ⟨_, rfl⟩
          rw [hm] at cd hf0 ⊢
          have hmk : m < 64 := by omega
          have s15 : IntKind.i64.wrap ((m : Int) - 15) = (m : Int) - 15 := IntWalk.i64_in _ (by omega)
          have s2 : IntKind.i64.wrap ((m : Int) - 2) = (m : Int) - 2 := IntWalk.i64_in _ (by omega)
          have s16 : IntKind.i64.wrap ((m : Int) - 16) = (m : Int) - 16 := IntWalk.i64_in _ (by omega)
          have s7 : IntKind.i64.wrap ((m : Int) - 7) = (m : Int) - 7 := IntWalk.i64_in _ (by omega)
          have p15 : (0 : Int) ≤ (m : Int) - 15 := by omega
          have p2 : (0 : Int) ≤ (m : Int) - 2 := by omega
          have p16 : (0 : Int) ≤ (m : Int) - 16 := by omega
          have p7 : (0 : Int) ≤ (m : Int) - 7 := by omega
          have q15 : (m : Int) - 15 < 64 := by omega
          have q2 : (m : Int) - 2 < 64 := by omega
          have q16 : (m : Int) - 16 < 64 := by omega
          have q7 : (m : Int) - 7 < 64 := by omega
          have t15 : ((m : Int) - 15).toNat = k + 1 := by omega
          have t2 : ((m : Int) - 2).toNat = k + 14 := by omega
          have t16 : ((m : Int) - 16).toNat = k := by omega
          have t7 : ((m : Int) - 7).toNat = k + 9 := by omega
          have HM : Hid (16 + k = m) := Lib.hid hm
          have m0 : (0 : Int) ≤ (m : Int) := by omega
          have m1 : (m : Int) < 64 := by omega
          have v15 : (15 : Int) ≤ (m : Int) := by omega
          have v2 : (2 : Int) ≤ (m : Int) := by omega
          have v16 : (16 : Int) ≤ (m : Int) := by omega
          have v7 : (7 : Int) ≤ (m : Int) := by omega
          clear hm
          go_wp2
          go_quiet (fail)
          go_wp2
          obtain ⟨wz, hwz⟩ : ∃ wz, World.drewN wq nq = wz := ⟨_, rfl⟩
          rw [hwz]
          have c16 : wz.cell? ⟨w.heap.size, k, none⟩ = some (.int .u32 (wn x16)) := by rw [← hwz]; exact c16
          have c15 : wz.cell? ⟨w.heap.size, k + 1, none⟩ = some (.int .u32 (wn x15)) := by rw [← hwz]; exact c15
          have c7 : wz.cell? ⟨w.heap.size, k + 9, none⟩ = some (.int .u32 (wn x7)) := by rw [← hwz]; exact c7
          have c2 : wz.cell? ⟨w.heap.size, k + 14, none⟩ = some (.int .u32 (wn x2)) := by rw [← hwz]; exact c2
          have cd : wz.cell? ⟨w.heap.size, m, none⟩ = some (.int .u32 (wn xd)) := by rw [← hwz]; exact cd
          have hf0 : wz.frozen? ⟨w.heap.size, m, none⟩ = false := by rw [← hwz]; exact hf0
          have HX : Hid (Whole wz w.heap.size 121 (u32s (fill (sched ch k) 64))) := Lib.hid (by rw [← hwz]; exact HX.out)
          have HS : Hid (Same w wz) := Lib.hid (by rw [← hwz]; exact HS.out.drewN nq)
          clear hwz
          refine wp_region_still_tail 29 (by kernel_rfl) (by kernel_rfl) ?_
          simp only [List.take_succ_cons, List.take_zero, List.drop_succ_cons, List.drop_zero]
          repeat still_step
          still_call (rot7 x15 _)
          repeat still_step
          still_call (rot18 x15 _)
          repeat still_step
          still_call (rot17 x2 _)
          repeat still_step
          still_call (rot19 x2 _)
          repeat still_step
          refine wpStill_nil ?_
          change wpList _ _ _ _ _ wz.drew
          clear c16 c15 c7 c2 s15 s2 s16 s7 p15 p2 p16 p7 q15 q2 q16 q7 t15 t2 t16 t7 v15 v2 v16 v7
          simp only [w_xor, w_wrap_add]
          go_wp2
          go_roundw
          case rel =>
            have hd := HX.out.set m (.int .u32 (wn (nextW (sched ch k))))
            rw [← u32s_set, show (fill (sched ch k) 64).set m (nextW (sched ch k)) = fill (sched ch k ++ [nextW (sched ch k)]) 64 from by
              rw [show m = (sched ch k).length from by rw [HSL.out, HM.out]]
              exact fill_snoc _ _ (by rw [HSL.out]; omega) _] at hd
            have hv : (wn (x16 + x7) + bits BinOp.xor IntKind.u32 (wn (rr x15 7 ^^^ rr x15 18)) (wn x15 / 8) + bits BinOp.xor IntKind.u32 (wn (rr x2 17 ^^^ rr x2 19)) (wn x2 / 1024)) % 4294967296 = wn (nextW (sched ch k)) := by
              rw [w_shr3, w_shr10, w_xor, w_xor, w_add3, HN.out]; rfl
            repeat apply Exists.intro
            refine ⟨⟨k + 1, by omega, by have h9 := HM.out; rw [show 16 + (k + 1) = m + 1 from by omega]; go_num, ?_, ?_⟩, rfl⟩
            · rw [hv]; exact hd
            · exact (HS.out.setCell _ _ (.inl (Nat.le_refl _))).drew
          case measure => simp [intOf]; omega
        · obtain rfl : k = 48 := by omega
          have e0 : fill (sched ch 48) 64 = sched ch 48 := by unfold fill; rw [hsl]; simp
          have hX := HX.out
          rw [e0] at hX
          clear HX
          have HX := Lib.hid hX
          have HSL := Lib.hid hsl
          clear hX e0 hsl
          have HWq := HW.out.keep HS.out (fun e => e)
          have d0 : wq.cell? ⟨B, 0, none⟩ = some (.int .u32 (wn s.a)) := HWq.cell (hcells_word s ch n 0 (by omega))
          have d1 : wq.cell? ⟨B, 1, none⟩ = some (.int .u32 (wn s.b)) := HWq.cell (hcells_word s ch n 1 (by omega))
          have d2 : wq.cell? ⟨B, 2, none⟩ = some (.int .u32 (wn s.c)) := HWq.cell (hcells_word s ch n 2 (by omega))
          have d3 : wq.cell? ⟨B, 3, none⟩ = some (.int .u32 (wn s.d)) := HWq.cell (hcells_word s ch n 3 (by omega))
          have d4 : wq.cell? ⟨B, 4, none⟩ = some (.int .u32 (wn s.e)) := HWq.cell (hcells_word s ch n 4 (by omega))
          have d5 : wq.cell? ⟨B, 5, none⟩ = some (.int .u32 (wn s.f)) := HWq.cell (hcells_word s ch n 5 (by omega))
          have d6 : wq.cell? ⟨B, 6, none⟩ = some (.int .u32 (wn s.g)) := HWq.cell (hcells_word s ch n 6 (by omega))
          have d7 : wq.cell? ⟨B, 7, none⟩ = some (.int .u32 (wn s.h)) := HWq.cell (hcells_word s ch n 7 (by omega))
          have HWQ := Lib.hid HWq
          clear HWq
          go_wp2
          go_quiet (fail)
          clear d0 d1 d2 d3 d4 d5 d6 d7
          go_wp2
          obtain ⟨w3, hw3⟩ : ∃ w3, World.drewN wq nq = w3 := ⟨_, rfl⟩
          rw [hw3]
          have HX : Hid (Whole w3 w.heap.size 121 (u32s (sched ch 48))) := Lib.hid (by rw [← hw3]; exact HX.out)
          have HS : Hid (Same w w3) := Lib.hid (by rw [← hw3]; exact HS.out.drewN nq)
          have HWQ : Hid (Whole w3 B 116 (hcells s ch n)) := Lib.hid (by rw [← hw3]; exact HWQ.out)
          clear hw3
          go_loopw [9, 10, 11, 12, 13, 14, 15, 16, 138] (fun a b c d e f g h i w4 => ∃ t : Nat, t ≤ 64 ∧ i = .int .i64 t ∧ (∃ q, w4 = w3.drewN q) ∧ ∃ r : St, r = rounds s (sched ch 48) t ∧ a = .int .u32 (wn r.a) ∧ b = .int .u32 (wn r.b) ∧ c = .int .u32 (wn r.c) ∧ d = .int .u32 (wn r.d) ∧ e = .int .u32 (wn r.e) ∧ f = .int .u32 (wn r.f) ∧ g = .int .u32 (wn r.g) ∧ h = .int .u32 (wn r.h)) (fun _ _ _ _ _ _ _ _ i _ => 64 - (intOf i).toNat)
          case atStart => exact ⟨0, by omega, rfl, ⟨0, rfl⟩, s, rfl, rfl, rfl, rfl, rfl, rfl, rfl, rfl, rfl⟩
          case round =>
            obtain ⟨t, ht, rfl, ⟨q, hq⟩, r, hr, rfl, rfl, rfl, rfl, rfl, rfl, rfl, rfl⟩ := hrel
            obtain ⟨w5, rfl⟩ : ∃ w5 : World, w5 = wr := ⟨_, rfl⟩
            have HQ := Lib.hid hq
            clear hq
            have HRR := Lib.hid hr
            clear hr
            by_cases htl : t < 64
            · have ck : w5.cell? ⟨0, t, none⟩ = some (.int .u32 (wn (roundKs.getD t 0))) := by
                rw [HQ.out]
                exact (World.cell?_of_block (w := w) (a := ⟨0, t, none⟩) (HS.out.block 0 (by omega) (fun e => e))).trans (HK.out t htl)
              have cw : w5.cell? ⟨w.heap.size, t, none⟩ = some (.int .u32 (wn ((sched ch 48).getD t 0))) := by
                rw [HQ.out]
                refine HX.out.cell ?_
                rw [u32s_get _ _ (by rw [HSL.out]; omega)]
                simp [List.getD, show t < (sched ch 48).length from by rw [HSL.out]; omega]
              have HR2 : Hid (rounds s (sched ch 48) (t + 1) = step r (roundKs.getD t 0) ((sched ch 48).getD t 0)) := Lib.hid (by rw [HRR.out]; rfl)
              generalize roundKs.getD t 0 = kk at *
              generalize (sched ch 48).getD t 0 = xx at *
              have htl2 : (t : Int) < 64 := by omega
              have ht0 : (0 : Int) ≤ (t : Int) := by omega
              go_wp2
              go_quiet ((first
                | (go_at_call 69; with_reducible exact Calls.quiet_of_same (rot6 r.e _))
                | (go_at_call 69; with_reducible exact Calls.quiet_of_same (rot11 r.e _))
                | (go_at_call 69; with_reducible exact Calls.quiet_of_same (rot25 r.e _))))
              clear ck cw
              simp only [w_notI, w_and, w_xor, w_add, w_add3, w_add4]
              go_wp2_with fail
              ((with_reducible refine (rot2 r.a _).mono ?_); rintro e w6 ⟨rfl, hw6⟩; subst hw6)
              go_wp2_with fail
              ((with_reducible refine (rot13 r.a _).mono ?_); rintro e w6 ⟨rfl, hw6⟩; subst hw6)
              go_wp2_with fail
              ((with_reducible refine (rot22 r.a _).mono ?_); rintro e w6 ⟨rfl, hw6⟩; subst hw6)
              go_wp2
              go_roundw
              case rel =>
                repeat apply Exists.intro
                refine ⟨⟨t + 1, by omega, by go_num, ⟨q + nq, by rw [HQ.out]; exact World.drewN_drewN _ _ _⟩, step r kk xx, HR2.out.symm, ?_, ?_, ?_, ?_, ?_, ?_, ?_, ?_⟩, rfl⟩
                all_goals (first | rfl | (simp only [w_and, w_xor, w_add]; rfl))
              case measure => simp [intOf]; omega
            · obtain rfl : t = 64 := by omega
              have HXX : Hid (s.add r = mixed s ch) := Lib.hid (by rw [HRR.out]; rfl)
              have HW5 : Hid (Whole w5 B 116 (u32s (addUp s r 0) ++ (u8s ch ++ [.int .u64 (n : Int)]))) := Lib.hid (by
                rw [HQ.out, addUp_zero, ← hcells_def]; exact HWQ.out)
              have HS5 : Hid (Same w w5) := Lib.hid (by rw [HQ.out]; exact HS.out.drewN q)
              clear HQ HRR HWQ HX HS
              go_wp2
              go_loopw [20, 21, 210] (fun _ _ i w6 => ∃ k : Nat, k ≤ 8 ∧ i = .int .i64 k ∧ Whole w6 B 116 (u32s (addUp s r k) ++ (u8s ch ++ [.int .u64 (n : Int)])) ∧ Keeps (fun k => k = B) w w6) (fun _ _ i _ => 8 - (intOf i).toNat)
              case atStart => exact ⟨0, by omega, rfl, HW5.out, HS5.out.any⟩
              case round =>
                clear HW5 HS5
                obtain ⟨k, hk, rfl, hx, hs⟩ := hrel
                obtain ⟨w6, rfl⟩ : ∃ w6 : World, w6 = wr := ⟨_, rfl⟩
                have HX := Lib.hid hx
                have HS := Lib.hid hs
                clear hx hs
                by_cases hk8 : k < 8
                · have cx : w6.cell? ⟨B, k, none⟩ = some (.int .u32 (wn (s.list.getD k 0))) := HX.out.cell (words_get _ _ _ _ (addUp_get s r k hk8))
                  have fx := HX.out.free k
                  have hidx : ∀ w', (Instr.index 112 (.agg #[.int .u32 (wn r.a), .int .u32 (wn r.b), .int .u32 (wn r.c), .int .u32 (wn r.d), .int .u32 (wn r.e), .int .u32 (wn r.f), .int .u32 (wn r.g), .int .u32 (wn r.h)]) (.int .i64 (k : Int))).run Tryd.prog w' = .ok (.int .u32 (wn (r.list.getD k 0))) w' := by
                    intro w'
                    rcases (by omega : k = 0 ∨ k = 1 ∨ k = 2 ∨ k = 3 ∨ k = 4 ∨ k = 5 ∨ k = 6 ∨ k = 7) with rfl | rfl | rfl | rfl | rfl | rfl | rfl | rfl <;> rfl
                  have HA : Hid (u32s (addUp s r (k + 1)) ++ (u8s ch ++ [Value.int .u64 (n : Int)]) = (u32s (addUp s r k) ++ (u8s ch ++ [Value.int .u64 (n : Int)])).set k (.int .u32 (wn (s.list.getD k 0 + r.list.getD k 0)))) := Lib.hid (by
                    rw [words_set _ _ _ (by rw [addUp_length _ _ _ hk]; exact hk8), addUp_set s r k hk8])
                  generalize s.list.getD k 0 = x1 at *
                  generalize r.list.getD k 0 = x2 at *
                  have hk2 : (k : Int) < 8 := by omega
                  have hk0 : (0 : Int) ≤ (k : Int) := by omega
                  go_wp2
                  go_still_tail 9, (by kernel_rfl)
                  change wpList _ _ _ _ _ w6.drew
                  go_wp2
                  go_roundw
                  case rel =>
                    repeat apply Exists.intro
                    refine ⟨⟨k + 1, by omega, by go_num, ?_, ?_⟩, rfl⟩
                    · rw [HA.out, ← w_add]; exact HX.out.set _ _
                    · exact (HS.out.setCell _ _ (.inr rfl)).drew
                  case measure => simp [intOf]; omega
                · obtain rfl : k = 8 := by omega
                  have HF : Hid (Whole w6 B 116 (hcells (mixed s ch) ch n)) := Lib.hid (by
                    have := HX.out
                    rw [addUp_all, HXX.out] at this
                    rw [hcells_def]; exact this)
                  clear HX
                  go_wp2
                  go_end0
                  exact ⟨rfl, HF.out, HS.out⟩

end Go.Proofs.YtafgiljgefeefaaDoor
namespace Go.Proofs.YtafgiljgefeefaaDoor
open Go.RowKit
set_option linter.unusedVariables false

/-- What a hasher holds. -/
structure HS where
  s : St
  ch : List UInt8
  n : Nat
def HS.cells (h : HS) : List Value := hcells h.s h.ch h.n
def feed1 (h : HS) (b : UInt8) : HS := ⟨if h.n % 64 = 63 then mixed h.s (h.ch.set (h.n % 64) b) else h.s, h.ch.set (h.n % 64) b, h.n + 1⟩
def feed (h : HS) (bs : List UInt8) : HS := bs.foldl feed1 h
def st0 : St := ⟨1779033703, 3144134277, 1013904242, 2773480762, 1359893119, 2600822924, 528734635, 1541459225⟩
def hs0 : HS := ⟨st0, List.replicate 64 0, 0⟩
theorem feed_append (h : HS) (a b : List UInt8) : feed h (a ++ b) = feed (feed h a) b := by simp [feed]
theorem feed_len (h : HS) (bs : List UInt8) : (feed h bs).ch.length = h.ch.length ∧ (feed h bs).n = h.n + bs.length := by
  induction bs generalizing h with
  | nil => exact ⟨rfl, rfl⟩
  | cons b r ih =>
    have := ih (feed1 h b)
    have e1 : (feed1 h b).ch.length = h.ch.length := by simp [feed1]
    have e2 : (feed1 h b).n = h.n + 1 := rfl
    refine ⟨this.1.trans e1, ?_⟩
    show (feed (feed1 h b) r).n = _
    rw [this.2, e2, List.length_cons]; omega
theorem splice_cons (ch : List UInt8) (at' : Nat) (b : UInt8) (r : List UInt8) (h : at' < ch.length) : (ch.set at' b).take (at' + 1) ++ r ++ (ch.set at' b).drop (at' + 1 + r.length) = ch.take at' ++ (b :: r) ++ ch.drop (at' + (r.length + 1)) := by
  have h1 : (ch.set at' b).take (at' + 1) = ch.take at' ++ [b] := by
    rw [List.take_succ_eq_append_getElem (by simpa using h), List.take_set, List.set_eq_of_length_le (by rw [List.length_take]; omega)]
    simp
  have h2 : (ch.set at' b).drop (at' + 1 + r.length) = ch.drop (at' + (r.length + 1)) := by
    rw [List.drop_set_of_lt (by omega)]
    congr 1; omega
  rw [h1, h2]; simp
theorem feed_run (xs : List UInt8) : ∀ (h : HS), h.ch.length = 64 → xs ≠ [] → h.n % 64 + xs.length ≤ 64 →
    feed h xs = ⟨if h.n % 64 + xs.length = 64 then mixed h.s (h.ch.take (h.n % 64) ++ xs ++ h.ch.drop (h.n % 64 + xs.length)) else h.s, h.ch.take (h.n % 64) ++ xs ++ h.ch.drop (h.n % 64 + xs.length), h.n + xs.length⟩ := by
  induction xs with
  | nil => intro h _ h0; exact absurd rfl h0
  | cons b r ih =>
    intro h hl _ hle
    simp only [List.length_cons] at hle
    have hlt : h.n % 64 < h.ch.length := by omega
    by_cases hr : r = []
    · subst hr
      have e : h.ch.set (h.n % 64) b = h.ch.take (h.n % 64) ++ [b] ++ h.ch.drop (h.n % 64 + 1) := by
        have := splice_cons h.ch (h.n % 64) b [] hlt
        simp only [List.append_nil, List.length_nil, Nat.add_zero, Nat.zero_add] at this
        rw [← this, List.take_append_drop]
      show feed1 h b = _
      unfold feed1
      simp only [List.length_cons, List.length_nil, Nat.zero_add]
      rw [e]
      congr 1
      have : (h.n % 64 = 63) = (h.n % 64 + 1 = 64) := by rw [eq_iff_iff]; omega
      simp only [this]
    · have hr0 : 0 < r.length := List.length_pos_iff.2 hr
      have hne : ¬ h.n % 64 = 63 := by omega
      have hmod : (h.n + 1) % 64 = h.n % 64 + 1 := by omega
      have h1 : feed1 h b = ⟨h.s, h.ch.set (h.n % 64) b, h.n + 1⟩ := by unfold feed1; rw [if_neg hne]
      have := ih ⟨h.s, h.ch.set (h.n % 64) b, h.n + 1⟩ (by simpa using hl) hr (by simp only; omega)
      simp only [hmod] at this
      show feed (feed1 h b) r = _
      rw [h1, this, splice_cons _ _ _ _ hlt]
      simp only [List.length_cons]
      rw [show h.n % 64 + 1 + r.length = h.n % 64 + (r.length + 1) from by omega, show h.n + 1 + r.length = h.n + (r.length + 1) from by omega]

theorem hcells_splice (s : St) (ch xs : List UInt8) (n i : Nat) (hl : ch.length = 64) (h : i + xs.length ≤ 64) : (hcells s ch n).take (8 + i) ++ u8s xs ++ (hcells s ch n).drop (8 + i + xs.length) = hcells s (ch.take i ++ xs ++ ch.drop (i + xs.length)) n := by
  have h8 : (u32s s.list).length = 8 := rfl
  rw [hcells_def, hcells_def, List.take_append, List.drop_append, h8]
  rw [List.take_of_length_le (by omega), List.drop_of_length_le (by omega), Nat.add_sub_cancel_left, show 8 + i + xs.length - 8 = i + xs.length from by omega, List.nil_append]
  rw [List.take_append, List.drop_append, u8s_length, hl, show i - 64 = 0 from by omega, show i + xs.length - 64 = 0 from by omega, List.take_zero, List.append_nil, List.drop_zero]
  simp only [u8s, List.map_append, List.map_take, List.map_drop, List.append_assoc]
theorem hcells_setcount (s : St) (ch : List UInt8) (n m : Nat) (hl : ch.length = 64) : (hcells s ch n).set 72 (.int .u64 (m : Int)) = hcells s ch m := by
  have h8 : (u32s s.list).length = 8 := rfl
  unfold hcells
  rw [List.set_append_right _ _ (by rw [List.length_append, u8s_length, h8, hl]; omega), List.length_append, u8s_length, h8, hl]
  rfl

theorem keeps_setRow (w : World) (B : Nat) (ds : Array Value) : Keeps (fun k => k = B) w (w.setRow B ds) := ⟨rfl, rfl, rfl, by simp, fun k _ hn => setRow_other w B k ds hn⟩

/-- A copy of bytes into a block that is known whole. -/
theorem run_copy_whole {P : Program} (w : World) (dT sT ty elem : TypeId) (B o dLen dCap : Nat) (x : Value) (bs : List UInt8) (cs : List Value) (t : TypeId) (hu : P.underlying dT = some (.slice elem)) (hs : (P.info? elem).map (·.size) = some 1)
    (hw : Whole w B t cs) (hx : Bytes w x bs) (hfit : o + dLen ≤ cs.length) :
    ∃ w', (Builtin.copy_ #[dT, sT] ty #[.slice (some ⟨B, o, none⟩) dLen dCap, x]).run P w = .ok (.int .i64 ((min bs.length dLen : Nat) : Int)) w' ∧ Whole w' B t (cs.take o ++ u8s (bs.take (min bs.length dLen)) ++ cs.drop (o + min bs.length dLen)) ∧ Keeps (fun k => k = B) w w' := by
  obtain ⟨ao, c, rfl⟩ := hx.form
  have hlen : (u8s (bs.take (min bs.length dLen))).length = min bs.length dLen := by rw [u8s_length, List.length_take]; omega
  by_cases h0 : min bs.length dLen = 0
  · have hr := run_copy_none (P := P) w dT sT ty elem (some ⟨B, o, none⟩) ao dLen dCap bs.length c hu hs h0
    refine ⟨w, by rw [hr, h0]; rfl, ?_, Keeps.refl _ _⟩
    rw [h0]; simp [u8s]; exact hw
  · have ha : ∃ a, ao = some a := by
      rcases hx with ⟨a, c', e, _⟩ | ⟨c', e, e2⟩
      · simp only [Value.slice.injEq] at e; exact ⟨a, e.1⟩
      · subst e2; simp at h0
    obtain ⟨a, rfl⟩ := ha
    have hsrc : ∀ j v, (u8s (bs.take (min bs.length dLen)))[j]? = some v → w.cell? (a.add j) = some v := by
      intro j v hv
      rcases hx with ⟨a', c', e, hc⟩ | ⟨c', e, _⟩
      · simp only [Value.slice.injEq, Option.some.injEq] at e
        obtain ⟨rfl, _, _⟩ := e
        refine hc j v ?_
        have hj : j < min bs.length dLen := by
          have := (List.getElem?_eq_some_iff.1 hv).1
          rw [hlen] at this; exact this
        have e3 : u8s (bs.take (min bs.length dLen)) = (u8s bs).take (min bs.length dLen) := by simp [u8s, List.map_take]
        rw [e3, List.getElem?_take_of_lt hj] at hv
        exact hv
      · simp at e
    have hr := run_copy_row (P := P) w dT sT ty elem B o dLen dCap a bs.length c cs.toArray t (u8s (bs.take (min bs.length dLen))) hu hs hw (by rw [hlen]) hsrc (by rw [hlen, List.size_toArray]; omega) (u8s_cell _)
    rw [hlen] at hr
    exact ⟨_, hr, hw.row, keeps_setRow _ _ _⟩

theorem wpList_clear_run {P : Program} {ops : Array Oper} {rest : List Oper} {o : Oper} {a : Act} {w : World} {Q : Exit → Act → World → Prop} (hgd : o.guard = none) (x : Operand) (t : TypeId)
    (ho : o.op = .call { callee := .builtin .clear, args := #[x], argTypes := #[t] }) (v r : Value) (w' : World) (hx : a.eval x = v)
    (hr : (Builtin.clear_ #[t] o.type #[v]).run P w = .ok r w') (hK : wpList P ops Q rest (a.put o.dst r) w') : wpList P ops Q (o :: rest) a w :=
  wpList_plain hgd fun K hK' => by
    unfold Oper.wp execOp
    simp only [ho, resolve, invoke, builtin, Sem.run_bind, Sem.run_pure, Result.andThen_ok, List.map_toArray, List.map_cons, List.map_nil, hx, hr]
    exact hK' _ _ hK
theorem run_clear_whole {P : Program} (w : World) (t ty elem : TypeId) (i : TypeInfo) (B o n c : Nat) (cs : List Value) (t' : TypeId) (hu : P.underlying t = some (.slice elem)) (hi : P.info? elem = some i) (hz : i.zero = some (.int .u8 0))
    (hw : Whole w B t' cs) (hfit : n ≠ 0 → o + n ≤ cs.length) :
    ∃ w', (Builtin.clear_ #[t] ty #[.slice (some ⟨B, o, none⟩) n c]).run P w = .ok (.tuple #[]) w' ∧ (n ≠ 0 → Whole w' B t' (cs.take o ++ u8s (List.replicate n 0) ++ cs.drop (o + n))) ∧ (n = 0 → w' = w) ∧ Keeps (fun k => k = B) w w' := by
  by_cases h0 : n = 0
  · subst h0
    exact ⟨w, by simp [Builtin.clear_, run_underlying hu], fun h => absurd rfl h, fun _ => rfl, Keeps.refl _ _⟩
  · have hz2 : (Builtin.zeroCells (Value.int .u8 0).cells n).toList = u8s (List.replicate n 0) := by
      apply List.ext_getElem
      · simp [Builtin.zeroCells, u8s, Value.cells]
      · intro i h1 h2
        simp [Builtin.zeroCells, u8s, Value.cells, Nat.mod_one]
    have hst := run_storeCells_at P B o t' (u8s (List.replicate n 0)) 0 cs.toArray w hw (by rw [u8s_length, List.length_replicate]; simp; exact hfit h0) (u8s_cell _)
    refine ⟨_, ?_, fun _ => hw.row (ds := cs.take o ++ u8s (List.replicate n 0) ++ cs.drop (o + n)), fun h => absurd h h0, keeps_setRow _ _ _⟩
    obtain ⟨m, rfl⟩ : ∃ m, n = m + 1 := ⟨n - 1, by omega⟩
    simp only [Nat.add_zero, u8s_length, List.length_replicate] at hst
    simp [Builtin.clear_, run_underlying hu, zeroValue, typeInfo, hi, hz, hz2, hst]

/-- A hasher lies in block B. -/
structure HasherAt (w : World) (B : Nat) (h : HS) : Prop where
  whole : Whole w B 116 h.cells
  len : h.ch.length = 64
  small : h.n ≤ 1000000
  pos : 0 < B
theorem HasherAt.keep {S : Nat → Prop} {w w' : World} {B : Nat} {h : HS} (hh : HasherAt w B h) (k : Keeps S w w') (hB : ¬ S B) : HasherAt w' B h := ⟨hh.whole.keep k hB, hh.len, hh.small, hh.pos⟩

set_option maxHeartbeats 800000 in
theorem filled_any (B : Nat) (h : HS) (w : World) (hh : HasherAt w B h) : Calls Tryd.prog 65 #[.pointer (some ⟨B, 0, none⟩)] w fun e w' => e = .returned (.int .i64 ((h.n % 64 : Nat) : Int)) ∧ w' = w := by
  have c0 : w.cell? ⟨B, 72, none⟩ = some (.int .u64 (h.n : Int)) := hh.whole.cell (hcells_count _ _ _ hh.len)
  have hs := hh.small
  go_enter Tryd.func65, Tryd.ntmps65
  go_wp2
  go_ret
  refine ⟨?_, rfl⟩
  show Ending.returned (Value.int IntKind.i64 ((h.n : Int) % 64)) = _
  rw [Int.natCast_emod]; rfl

set_option maxRecDepth 100000 in
set_option maxHeartbeats 1600000 in
theorem new_any (w : World) (h0 : 0 < w.heap.size) : Calls Tryd.prog 53 #[] w fun e w' => e = .returned (.pointer (some ⟨w.heap.size, 0, none⟩)) ∧ HasherAt w' w.heap.size hs0 ∧ Same w w' := by
  have hz : ∀ w, (zeroValue 116).run Tryd.prog w = .ok (.agg #[.int .u32 0, .int .u32 0, .int .u32 0, .int .u32 0, .int .u32 0, .int .u32 0, .int .u32 0, .int .u32 0, .int .u8 0, .int .u8 0, .int .u8 0, .int .u8 0, .int .u8 0, .int .u8 0, .int .u8 0, .int .u8 0, .int .u8 0, .int .u8 0, .int .u8 0, .int .u8 0, .int .u8 0, .int .u8 0, .int .u8 0, .int .u8 0, .int .u8 0, .int .u8 0, .int .u8 0, .int .u8 0, .int .u8 0, .int .u8 0, .int .u8 0, .int .u8 0, .int .u8 0, .int .u8 0, .int .u8 0, .int .u8 0, .int .u8 0, .int .u8 0, .int .u8 0, .int .u8 0, .int .u8 0, .int .u8 0, .int .u8 0, .int .u8 0, .int .u8 0, .int .u8 0, .int .u8 0, .int .u8 0, .int .u8 0, .int .u8 0, .int .u8 0, .int .u8 0, .int .u8 0, .int .u8 0, .int .u8 0, .int .u8 0, .int .u8 0, .int .u8 0, .int .u8 0, .int .u8 0, .int .u8 0, .int .u8 0, .int .u8 0, .int .u8 0, .int .u8 0, .int .u8 0, .int .u8 0, .int .u8 0, .int .u8 0, .int .u8 0, .int .u8 0, .int .u8 0, .int .u64 0]) w := fun _ => by kernel_rfl
  go_enter Tryd.func53, Tryd.ntmps53
  go_wp2
  go_ret
  exact ⟨rfl, ⟨heap_alloc_new _ _, rfl, by decide, h0⟩, (Keeps.refl _ _).alloc _⟩

end Go.Proofs.YtafgiljgefeefaaDoor
namespace Go.Proofs.YtafgiljgefeefaaDoor
open Go.RowKit
set_option linter.unusedVariables false

/-- The round numbers lie in block 0. -/
def Nums (w : World) : Prop := ∀ t, t < 64 → w.cell? ⟨0, t, none⟩ = some (.int .u32 (wn (roundKs.getD t 0)))
theorem Nums.keep {S : Nat → Prop} {w w' : World} (h : Nums w) (k : Keeps S w w') (h0 : ¬ S 0) : Nums w' := fun t ht =>
  (World.cell?_of_block (w := w) (a := ⟨0, t, none⟩) (k.block 0 (World.block_lt_of_cell? w _ (h t ht)) h0)).trans (h t ht)
theorem Bytes.cutAt {w : World} {ao : Option Addr} {n c : Nat} {bs : List UInt8} (h : Bytes w (.slice ao n c) bs) (hn : bs.length = n) (k : Nat) (hk : k ≤ n) (hc : n ≤ c) (m d : Nat) (hm : m = n - k) :
    Bytes w (.slice (if c = k then ao else Option.map (fun x => x.add k) ao) m d) (bs.drop k) := by
  subst hm
  have hl : (bs.drop k).length = n - k := by rw [List.length_drop, hn]
  by_cases e : c = k
  · have h0 : bs.drop k = [] := List.length_eq_zero_iff.1 (by omega)
    rw [h0, show n - k = 0 from by omega]
    exact Bytes.nil _ _ _
  · rw [if_neg e]
    rcases h with ⟨a, c', h1, hcell⟩ | ⟨c', h1, h2⟩
    · simp only [Value.slice.injEq] at h1
      obtain ⟨rfl, _, _⟩ := h1
      refine .inl ⟨_, d, by rw [hl]; rfl, fun j u hu => ?_⟩
      have e1 : (a.add k).add j = a.add (k + j) := by
        unfold Addr.add
        by_cases hk0 : k = 0 <;> by_cases hj0 : j = 0 <;> simp [hk0, hj0, Nat.add_assoc]
      rw [e1]
      refine hcell (k + j) u ?_
      rw [← hu]
      simp [u8s, List.getElem?_drop]
    · subst h2
      simp only [List.length_nil] at hn
      rw [show n - k = 0 from by omega]
      simp only [List.drop_nil]
      exact Bytes.nil _ _ _

def lenOf : Value → Nat
  | .slice _ n _ => n
  | _ => 0

set_option maxRecDepth 100000 in
set_option maxHeartbeats 12800000 in
theorem add_any (B : Nat) (h : HS) (bs : List UInt8) (ao : Option Addr) (L cap : Nat) (w : World) (hh : HasherAt w B h) (hN : Nums w) (hb : ∀ w', Keeps (fun k => k = B) w w' → Bytes w' (.slice ao L cap) bs) (hL : bs.length = L) (hc : L ≤ cap) (hcm : cap ≤ 9223372036854775807) (hs : h.n + L ≤ 1000000) :
    Calls Tryd.prog 54 #[.pointer (some ⟨B, 0, none⟩), .slice ao L cap] w fun e w' => e = .returned (.tuple #[]) ∧ HasherAt w' B (feed h bs) ∧ Keeps (fun k => k = B) w w' := by
  have HB := Lib.hid hb
  have HN := Lib.hid hN
  have HH := Lib.hid hh
  have HL := Lib.hid hL
  have hu : Tryd.prog.underlying 33 = some (.slice 5) := Tryd.underlying33
  have hsz : (Tryd.prog.info? 5).map (·.size) = some 1 := by kernel_rfl
  have HU := Lib.hid hu
  have HSZ := Lib.hid hsz
  clear hb hN hh hL hu hsz
  go_enter Tryd.func54, Tryd.ntmps54
  go_wp2
  go_loopw [1] (fun b wr => ∃ k : Nat, k ≤ L ∧ (∃ ao', b = .slice ao' (L - k) (cap - k) ∧ ∀ w', Keeps (fun k => k = B) w w' → Bytes w' (.slice ao' (L - k) (cap - k)) (bs.drop k)) ∧ HasherAt wr B (feed h (bs.take k)) ∧ Keeps (fun k => k = B) w wr) (fun b _ => lenOf b)
  case atStart => exact ⟨0, by omega, ⟨ao, rfl, by simpa using HB.out⟩, by simpa [feed] using HH.out, Keeps.refl _ _⟩
  case round =>
    obtain ⟨k, hk, ⟨ao', rfl, hby⟩, hha, hkw⟩ := hrel
    have HBY := Lib.hid hby
    have HHA := Lib.hid hha
    have HKW := Lib.hid hkw
    have hhn := (feed_len h (bs.take k)).2
    rw [List.length_take, HL.out, Nat.min_eq_left hk] at hhn
    have HHN := Lib.hid hhn
    clear hby hha hkw hhn
    obtain ⟨m, hm⟩ : ∃ m, L - k = m := ⟨_, rfl⟩
    obtain ⟨c', hc'⟩ : ∃ c', cap - k = c' := ⟨_, rfl⟩
    rw [hm, hc'] at HBY ⊢
    have HM := Lib.hid hm
    have HC' := Lib.hid hc'
    have hmc : m ≤ c' := by omega
    have hcm' : c' ≤ 9223372036854775807 := by omega
    have hml : m ≤ 1000000 := by omega
    clear hm hc'
    generalize hH : feed h (bs.take k) = H at *
    have HFH := Lib.hid hH
    clear hH
    by_cases hm0 : 0 < m
    · have hm1 : (0 : Int) < (m : Int) := by omega
      obtain ⟨p, hp⟩ : ∃ p, H.n % 64 = p := ⟨_, rfl⟩
      have hp64 : p < 64 := by omega
      have hHs := HHA.out.small
      obtain ⟨q, hq⟩ : ∃ q, min m (64 - p) = q := ⟨_, rfl⟩
      have hq1 : 1 ≤ q := by omega
      have hqm : q ≤ m := by omega
      have hqp : p + q ≤ 64 := by omega
      have hdl : (bs.drop k).length = m := by rw [List.length_drop, HL.out]; exact HM.out
      obtain ⟨w2, hrun, hwh, hk2⟩ := run_copy_whole (P := Tryd.prog) wr 33 33 3 5 B (8 + p) (64 - p) (64 - p) (.slice ao' m c') (bs.drop k) H.cells 116 HU.out HSZ.out HHA.out.whole (HBY.out wr HKW.out) (by rw [HS.cells, hcells_length _ _ _ HHA.out.len]; omega)
      rw [hdl, hq] at hrun hwh
      have hxl : ((bs.drop k).take q).length = q := by rw [List.length_take, hdl]; omega
      have hwh2 : Whole w2 B 116 (hcells H.s (H.ch.take p ++ (bs.drop k).take q ++ H.ch.drop (p + q)) H.n) := by
        have := hcells_splice H.s H.ch ((bs.drop k).take q) H.n p HHA.out.len (by rw [hxl]; omega)
        rw [hxl] at this
        rw [← this]; exact hwh
      have hchl : (H.ch.take p ++ (bs.drop k).take q ++ H.ch.drop (p + q)).length = 64 := by
        rw [List.length_append, List.length_append, hxl, List.length_take, List.length_drop, HHA.out.len]; omega
      have HFEED : Hid (feed h (bs.take (k + q)) = ⟨if p + q = 64 then mixed H.s (H.ch.take p ++ (bs.drop k).take q ++ H.ch.drop (p + q)) else H.s, H.ch.take p ++ (bs.drop k).take q ++ H.ch.drop (p + q), H.n + q⟩) := Lib.hid (by
        have e : bs.take (k + q) = bs.take k ++ (bs.drop k).take q := by rw [List.take_add]
        rw [e, feed_append, HFH.out]
        have := feed_run ((bs.drop k).take q) H HHA.out.len (by intro e0; rw [e0] at hxl; simp at hxl; omega) (by rw [hxl, hp]; omega)
        rw [hxl, hp] at this
        exact this)
      generalize (H.ch.take p ++ (bs.drop k).take q ++ H.ch.drop (p + q)) = ch2 at *
      have HRUN := Lib.hid hrun
      have HWH2 := Lib.hid hwh2
      have HK2 := Lib.hid hk2
      have HCHL := Lib.hid hchl
      have HP := Lib.hid hp
      have hc72 : w2.cell? ⟨B, 72, none⟩ = some (.int .u64 (H.n : Int)) := hwh2.cell (hcells_count _ _ _ hchl)
      have hf72 := hwh2.free 72
      have hnp : ¬ 64 = p := by omega
      obtain ⟨ad, had⟩ : ∃ ad, (if c' = q then ao' else Option.map (fun x => x.add q) ao') = ad := ⟨_, rfl⟩
      have HCUT : Hid (∀ w', Keeps (fun k => k = B) w w' → Bytes w' (.slice ad (m - q) (c' - q)) (bs.drop (k + q))) := Lib.hid fun w' hk' => by
        have := (HBY.out w' hk').cutAt hdl q hqm hmc (m - q) (c' - q) rfl
        rwa [had, List.drop_drop] at this
      clear hrun hwh hwh2 hk2 hchl hp hq hdl hxl
      have hpI : (0 : Int) ≤ (p : Int) := by omega
      have hpI2 : (p : Int) ≤ 64 := by omega
      have hqI : (q : Int) ≤ (m : Int) := by omega
      have HW3 : Hid (Whole (w2.setCell ⟨B, 72, none⟩ (.int .u64 ((H.n : Int) + (q : Int)))) B 116 (hcells H.s ch2 (H.n + q))) := Lib.hid (by
        have := HWH2.out.set 72 (.int .u64 ((H.n + q : Nat) : Int))
        rw [hcells_setcount _ _ _ _ HCHL.out, Int.natCast_add] at this
        exact this)
      have HK3 : Hid (Keeps (fun k => k = B) w (w2.setCell ⟨B, 72, none⟩ (.int .u64 ((H.n : Int) + (q : Int))))) := Lib.hid ((HKW.out.trans HK2.out (fun _ _ e => e)).setCell _ _ (.inr rfl))
      have HSM : Hid (H.n + q ≤ 1000000 ∧ k + q ≤ L ∧ L - (k + q) = m - q ∧ cap - (k + q) = c' - q) := Lib.hid (by have := HHN.out; have := HM.out; have := HC'.out; omega)
      by_cases h64 : p + q = 64
      · have hb64 : (((p : Int) + (q : Int)) == 64) = true := by rw [beq_iff_eq]; omega
        rw [if_pos h64] at HFEED
        go_wp2_with fail
        ((with_reducible refine (filled_any B H _ HHA.out).mono ?_); rintro e w1 ⟨rfl, hw1⟩; subst hw1)
        rw [HP.out]
        go_wp2_with ((refine Lib.wpList_copy_run _ (by rfl) _ _ 33 33 (by rfl) _ _ (by rfl) (by rfl) HRUN.out ?_))
        go_still_tail 6, (by kernel_rfl)
        change wpList _ _ _ _ _ (World.drew (w2.setCell ⟨B, 72, none⟩ (.int .u64 ((H.n : Int) + (q : Int)))))
        clear hc72 hf72
        obtain ⟨w3, hw3⟩ : ∃ w3, World.drew (w2.setCell ⟨B, 72, none⟩ (.int .u64 ((H.n : Int) + (q : Int)))) = w3 := ⟨_, rfl⟩
        rw [hw3]
        have HW4 : Hid (Whole w3 B 116 (hcells H.s ch2 (H.n + q))) := Lib.hid (by rw [← hw3]; exact HW3.out)
        have HK4 : Hid (Keeps (fun k => k = B) w w3) := Lib.hid (by rw [← hw3]; exact HK3.out.drew)
        have HNN : Hid (∀ t, t < 64 → w3.cell? ⟨0, t, none⟩ = some (.int .u32 (wn (roundKs.getD t 0)))) := Lib.hid (HN.out.keep HK4.out (by have := HHA.out.pos; omega))
        clear hw3
        go_wp2_with fail
        ((with_reducible refine (mix_any B (H.n + q) H.s ch2 _ HW4.out HCHL.out HHA.out.pos HNN.out).mono ?_); rintro e w5 ⟨rfl, hw5, hk5⟩)
        have HW5 := Lib.hid hw5
        have HK5 := Lib.hid hk5
        clear hw5 hk5
        go_wp2
        go_roundw
        case rel => exact ⟨k + q, HSM.out.2.1, ⟨ad, by rw [HSM.out.2.2.1, HSM.out.2.2.2], by rw [HSM.out.2.2.1, HSM.out.2.2.2]; exact HCUT.out⟩, by rw [HFEED.out]; exact ⟨HW5.out, HCHL.out, HSM.out.1, HHA.out.pos⟩, HK4.out.trans HK5.out (fun _ _ e => e)⟩
        case measure => simp [lenOf]; omega
      · have hb64 : (((p : Int) + (q : Int)) == 64) = false := beq_false_of_ne (by omega)
        rw [if_neg h64] at HFEED
        go_wp2_with fail
        ((with_reducible refine (filled_any B H _ HHA.out).mono ?_); rintro e w1 ⟨rfl, hw1⟩; subst hw1)
        rw [HP.out]
        go_wp2_with ((refine Lib.wpList_copy_run _ (by rfl) _ _ 33 33 (by rfl) _ _ (by rfl) (by rfl) HRUN.out ?_))
        go_roundw
        case rel => exact ⟨k + q, HSM.out.2.1, ⟨ad, by rw [HSM.out.2.2.1, HSM.out.2.2.2], by rw [HSM.out.2.2.1, HSM.out.2.2.2]; exact HCUT.out⟩, by rw [HFEED.out]; exact ⟨HW3.out, HCHL.out, HSM.out.1, HHA.out.pos⟩, HK3.out⟩
        case measure => simp [lenOf]; omega
    · obtain rfl : m = 0 := by omega
      have hkL : k = L := by have := HM.out; omega
      subst hkL
      have hfin : feed h bs = H := by
        have := HFH.out
        rwa [List.take_of_length_le (by rw [HL.out]; omega)] at this
      have HFIN := Lib.hid hfin
      clear hfin
      go_wp2
      go_end0
      exact ⟨rfl, by rw [HFIN.out]; exact HHA.out, HKW.out⟩

end Go.Proofs.YtafgiljgefeefaaDoor
namespace Go.Proofs.YtafgiljgefeefaaDoor
open Go.RowKit
set_option linter.unusedVariables false

theorem byte_at' (n k : Nat) : IntKind.u8.wrap (((n * 8 : Nat) : Int) / 2 ^ (8 * (k : Int)).toNat) = ((UInt8.ofNat (n * 8 / 256 ^ k)).toNat : Int) := by
  have e : (8 * (k : Int)).toNat = 8 * k := by omega
  have h1 : ((2 : Int) ^ (8 * k)) = ((256 ^ k : Nat) : Int) := by
    rw [Nat.pow_mul' 2 8 k |> (fun _ => (show ((2 : Int) ^ (8 * k)) = ((2 ^ (8 * k) : Nat) : Int) from by push_cast; rfl)), Nat.pow_mul]
  have h2 : ∀ z : Int, IntKind.u8.wrap z = z % 256 := fun _ => rfl
  rw [e, h1, h2, UInt8.toNat_ofNat', ← Int.natCast_ediv]
  omega

/-- The end's mark and noughts behind what waits. -/
def endCh (ch : List UInt8) (p : Nat) : List UInt8 := ch.take p ++ [128] ++ List.replicate (63 - p) 0
theorem endCh_length (ch : List UInt8) (p : Nat) (hl : ch.length = 64) (h : p < 64) : (endCh ch p).length = 64 := by
  unfold endCh; rw [List.length_append, List.length_append, List.length_take, List.length_replicate, hl]; simp; omega
/-- The state and the chunk ahead of the number of bits. -/
def fin1 (h : HS) : St × List UInt8 := if 56 ≤ h.n % 64 then (mixed h.s (endCh h.ch (h.n % 64)), List.replicate 64 0) else (h.s, endCh h.ch (h.n % 64))
theorem fin1_length (h : HS) (hl : h.ch.length = 64) : (fin1 h).2.length = 64 := by
  unfold fin1
  split
  · simp
  · exact endCh_length _ _ hl (by omega)
/-- The number of bits, written from the end. -/
def tailCh (ch : List UInt8) (t k : Nat) : List UInt8 := ch.take (64 - k) ++ (be t 8).drop (8 - k)
theorem tailCh_length (ch : List UInt8) (t k : Nat) (hl : ch.length = 64) (h : k ≤ 8) : (tailCh ch t k).length = 64 := by
  unfold tailCh; rw [List.length_append, List.length_take, List.length_drop, be_length, hl]; omega
theorem tailCh_zero (ch : List UInt8) (t : Nat) (hl : ch.length = 64) : tailCh ch t 0 = ch := by
  unfold tailCh
  rw [List.take_of_length_le (by omega), List.drop_of_length_le (by rw [be_length]; omega), List.append_nil]
theorem tailCh_succ (ch : List UInt8) (t k : Nat) (hl : ch.length = 64) (h : k < 8) : (tailCh ch t k).set (63 - k) (UInt8.ofNat (t / 256 ^ k)) = tailCh ch t (k + 1) := by
  unfold tailCh
  have h1 : (ch.take (64 - k)).length = 64 - k := by rw [List.length_take, hl]; omega
  rw [List.set_append_left _ _ (by omega), show 64 - k = (63 - k) + 1 from by omega, List.take_succ_eq_append_getElem (by omega), List.set_append_right _ _ (by rw [List.length_take, hl]; omega)]
  rw [show 63 - k - (ch.take (63 - k)).length = 0 from by rw [List.length_take, hl]; omega, List.set_cons_zero, show 64 - (k + 1) = 63 - k from by omega, List.append_assoc]
  congr 1
  rw [show 8 - (k + 1) = 7 - k from by omega, List.drop_eq_getElem_cons (i := 7 - k) (by rw [be_length]; omega), be_getD _ _ _ (by omega)]
  rw [show 8 - 1 - (7 - k) = k from by omega, show 7 - k + 1 = 8 - k from by omega]
  rfl
def finish (h : HS) : HS := ⟨mixed (fin1 h).1 (tailCh (fin1 h).2 (h.n * 8) 8), tailCh (fin1 h).2 (h.n * 8) 8, h.n⟩

theorem hcells_setbyte (s : St) (ch : List UInt8) (n i : Nat) (b : UInt8) (hl : ch.length = 64) (h : i < 64) : (hcells s ch n).set (8 + i) (.int .u8 (b.toNat : Int)) = hcells s (ch.set i b) n := by
  have h8 : (u32s s.list).length = 8 := rfl
  rw [hcells_def, hcells_def, List.set_append_right _ _ (by omega), h8, Nat.add_sub_cancel_left, List.set_append_left _ _ (by rw [u8s_length]; omega), ← u8s_set]

set_option maxRecDepth 100000 in
set_option maxHeartbeats 12800000 in
theorem finish_any (B : Nat) (h : HS) (w : World) (hh : HasherAt w B h) (hN : Nums w) :
    Calls Tryd.prog 67 #[.pointer (some ⟨B, 0, none⟩)] w fun e w' => e = .returned (.tuple #[]) ∧ HasherAt w' B (finish h) ∧ Keeps (fun k => k = B) w w' := by
  obtain ⟨p, hp⟩ : ∃ p, h.n % 64 = p := ⟨_, rfl⟩
  have hp64 : p < 64 := by omega
  have HN := Lib.hid hN
  have HH := Lib.hid hh
  have HP := Lib.hid hp
  have hs := hh.small
  have hc72 : w.cell? ⟨B, 72, none⟩ = some (.int .u64 (h.n : Int)) := hh.whole.cell (hcells_count _ _ _ hh.len)
  have hcp : w.cell? ⟨B, 8 + p, none⟩ = some (.int .u8 ((h.ch.getD p 0).toNat : Int)) := hh.whole.cell (hcells_byte _ _ _ _ hh.len hp64)
  have hfp := hh.whole.free (8 + p)
  have HW1 : Hid (Whole (w.setCell ⟨B, 8 + p, none⟩ (.int .u8 128)) B 116 (hcells h.s (h.ch.set p 128) h.n)) := Lib.hid (by
    have := hh.whole.set (8 + p) (.int .u8 ((128 : UInt8).toNat : Int))
    rw [HS.cells, hcells_setbyte _ _ _ _ _ hh.len hp64] at this
    exact this)
  obtain ⟨i0, hi0, hz0, _, _⟩ := info_parts (show (Tryd.prog.info? 5).map (fun i => (i.zero, i.size, i.bytes)) = some (some (.int .u8 0), 1, 1) from by kernel_rfl)
  obtain ⟨g, hg⟩ : ∃ g : UInt8, h.ch.getD p 0 = g := ⟨_, rfl⟩
  rw [hg] at hcp
  obtain ⟨w2, hrun, hwz, hw0, hk2⟩ := run_clear_whole (P := Tryd.prog) (w.setCell ⟨B, 8 + p, none⟩ (.int .u8 128)) 33 0 5 i0 B (if p = 63 then 8 else 8 + (p + 1)) (63 - p) (63 - p) _ _ Tryd.underlying33 hi0 hz0 HW1.out (fun h0 => by rw [if_neg (by omega), hcells_length _ _ _ (by rw [List.length_set]; exact hh.len)]; omega)
  have hwh2 : Whole w2 B 116 (hcells h.s (endCh h.ch p) h.n) := by
    by_cases h63 : p = 63
    · have e1 : 63 - p = 0 := by omega
      have e2 : h.ch.set p 128 = endCh h.ch p := by
        unfold endCh
        have := splice_cons h.ch p 128 [] (by rw [hh.len]; exact hp64)
        simp only [List.append_nil, List.length_nil, Nat.add_zero, Nat.zero_add] at this
        rw [List.take_append_drop] at this
        rw [this, e1, List.drop_of_length_le (by rw [hh.len]; omega)]
        rfl
      rw [hw0 e1, ← e2]; exact HW1.out
    · have := hwz (by omega)
      rw [if_neg h63] at this
      have e := hcells_splice h.s (h.ch.set p 128) (List.replicate (63 - p) 0) h.n (p + 1) (by rw [List.length_set]; exact hh.len) (by rw [List.length_replicate]; omega)
      rw [List.length_replicate] at e
      rw [e] at this
      have e2 := splice_cons h.ch p 128 (List.replicate (63 - p) 0) (by rw [hh.len]; exact hp64)
      rw [List.length_replicate] at e2
      rw [e2, List.drop_of_length_le (by rw [hh.len]; omega)] at this
      unfold endCh
      simpa using this
  have HWH2 := Lib.hid hwh2
  have HK2 : Hid (Keeps (fun k => k = B) w w2) := Lib.hid (((Keeps.refl (fun k => k = B) w).setCell _ _ (.inr rfl)).trans hk2 (fun _ _ e => e))
  have HRUN := Lib.hid hrun
  have HECL : Hid ((endCh h.ch p).length = 64) := Lib.hid (endCh_length _ _ hh.len hp64)
  clear hN hh hp hwz hw0 hk2 hrun hwh2 HW1 hg
  have hpI : (0 : Int) ≤ (p : Int) + 1 := by omega
  have hpI2 : (p : Int) + 1 ≤ 64 := by omega
  by_cases h56 : (56 : Int) ≤ (p : Int)
  · by_cases h63 : p = 63
    · subst h63
      have HRUN2 : Hid ((Builtin.clear_ #[33] 0 #[Value.slice (some ⟨B, 8, none⟩) 0 0]).run Tryd.prog (w.setCell ⟨B, 8 + 63, none⟩ (.int .u8 128)) = .ok (.tuple #[]) w2) := Lib.hid (by have := HRUN.out; rwa [if_pos rfl] at this)
      go_enter Tryd.func67, Tryd.ntmps67
      go_wp2_with fail
      ((with_reducible refine (filled_any B h _ HH.out).mono ?_); rintro e w1 ⟨rfl, hw1⟩; replace hw1 := hw1.symm; subst hw1)
      rw [HP.out]
      go_wp2_with (refine wpList_clear_run (by rfl) _ 33 (by rfl) _ _ _ (by rfl) HRUN2.out ?_)
      go_still_tail 6, (by kernel_rfl)
      change wpList _ _ _ _ _ (World.drew w2)
      obtain ⟨wm, hwm⟩ : ∃ wm, World.drew w2 = wm := ⟨_, rfl⟩
      rw [hwm]
      have HWM : Hid (Whole wm B 116 (hcells (h.s) (endCh h.ch 63) h.n)) := Lib.hid (by rw [← hwm]; exact HWH2.out)
      have HKM : Hid (Keeps (fun k => k = B) w wm) := Lib.hid (by rw [← hwm]; exact Keeps.drew HK2.out)
      have HNN : Hid (∀ t, t < 64 → wm.cell? ⟨0, t, none⟩ = some (.int .u32 (wn (roundKs.getD t 0)))) := Lib.hid (HN.out.keep HKM.out (by have := HH.out.pos; omega))
      clear hwm
      go_wp2_with fail
      ((with_reducible refine (mix_any B h.n _ _ _ HWM.out HECL.out HH.out.pos HNN.out).mono ?_); rintro e w5 ⟨rfl, hw5, hk5⟩)
      have HW5 := Lib.hid hw5
      have HK5 : Hid (Keeps (fun k => k = B) w w5) := Lib.hid (HKM.out.trans hk5 (fun _ _ e => e))
      clear hw5 hk5 HWM HKM HNN
      obtain ⟨w7, hrun7, hwz7, _, hk7⟩ := run_clear_whole (P := Tryd.prog) w5 33 0 5 i0 B 8 64 64 _ _ Tryd.underlying33 hi0 hz0 HW5.out (fun _ => by rw [hcells_length _ _ _ HECL.out]; omega)
      obtain ⟨s1, hs1⟩ : ∃ s1, mixed h.s (endCh h.ch 63) = s1 := ⟨_, rfl⟩
      obtain ⟨c2, hc2⟩ : ∃ c2 : List UInt8, List.replicate 64 0 = c2 := ⟨_, rfl⟩
      have HCT : Hid (c2.length = 64) := Lib.hid (by rw [← hc2]; simp)
      have HWT : Hid (Whole w7 B 116 (hcells s1 c2 h.n)) := Lib.hid (by
        have h8 := hwz7 (by omega)
        have e8 := hcells_splice (mixed h.s (endCh h.ch 63)) (endCh h.ch 63) (List.replicate 64 0) h.n 0 HECL.out (by simp)
        simp only [Nat.add_zero, List.length_replicate, List.take_zero, List.nil_append, Nat.zero_add] at e8
        rw [e8, List.drop_of_length_le (by rw [HECL.out]; omega), List.append_nil] at h8
        rw [← hs1, ← hc2]; exact h8)
      have HKT : Hid (Keeps (fun k => k = B) w w7) := Lib.hid (HK5.out.trans hk7 (fun _ _ e => e))
      have HFIN : Hid (fin1 h = (s1, c2)) := Lib.hid (by unfold fin1; rw [HP.out, if_pos (by omega), hs1, hc2])
      have HRUN7 := Lib.hid hrun7
      clear hrun7 hwz7 hk7 hs1 hc2 HW5 HK5
      go_wp2_with (refine wpList_clear_run (by rfl) _ 33 (by rfl) _ _ _ (by rfl) HRUN7.out ?_)
      go_wp2
      go_loopw [4, 36] (fun _ i wr => ∃ k : Nat, k ≤ 8 ∧ i = .int .i64 k ∧ Whole wr B 116 (hcells s1 (tailCh c2 (h.n * 8) k) h.n) ∧ Keeps (fun k => k = B) w wr) (fun _ i _ => 8 - (intOf i).toNat)
      case atStart => exact ⟨0, by omega, rfl, by rw [tailCh_zero _ _ HCT.out]; exact HWT.out, HKT.out⟩
      case round =>
        clear HWT HKT
        obtain ⟨k, hk, rfl, hx, hkw⟩ := hrel
        obtain ⟨wo, rfl⟩ : ∃ wo : World, wo = wr := ⟨_, rfl⟩
        have HX := Lib.hid hx
        have HKW := Lib.hid hkw
        clear hx hkw
        by_cases hk8 : k < 8
        · obtain ⟨gb, hgb⟩ : ∃ gb : UInt8, (tailCh c2 (h.n * 8) k).getD (63 - k) 0 = gb := ⟨_, rfl⟩
          have cx : wo.cell? ⟨B, 8 + (63 - k), none⟩ = some (.int .u8 ((gb.toNat : Nat) : Int)) := by
            rw [← hgb]; exact HX.out.cell (hcells_byte _ _ _ _ (tailCh_length _ _ _ HCT.out hk) (by omega))
          have fx := HX.out.free (8 + (63 - k))
          clear hgb
          have s1' : IntKind.i64.wrap (63 - (k : Int)) = 63 - (k : Int) := IntWalk.i64_in _ (by omega)
          have s2 : IntKind.i64.wrap (8 * (k : Int)) = 8 * (k : Int) := IntWalk.i64_in _ (by omega)
          have s3 : (0 : Int) ≤ 63 - (k : Int) := by omega
          have s4 : 63 - (k : Int) < 64 := by omega
          have s5 : (63 - (k : Int)).toNat = 63 - k := by omega
          have s6 : (0 : Int) ≤ 8 * (k : Int) := by omega
          have s7 : (k : Int) ≤ 63 := by omega
          have s8 : 8 * (k : Int) < 64 := by omega
          have hk9 : (k : Int) < 8 := by omega
          go_wp2
          go_still_tail 11, (by kernel_rfl)
          change wpList _ _ _ _ _ (World.drew wo)
          go_wp2
          go_roundw
          case rel =>
            have h9 := HX.out.set (8 + (63 - k)) (.int .u8 ((UInt8.ofNat (h.n * 8 / 256 ^ k)).toNat : Int))
            rw [hcells_setbyte _ _ _ _ _ (tailCh_length _ _ _ HCT.out hk) (by omega), tailCh_succ _ _ _ HCT.out hk8, ← byte_at'] at h9
            have h10 : Keeps (fun k => k = B) w (World.drew (wo.setCell ⟨B, 8 + (63 - k), none⟩ (.int .u8 (IntKind.u8.wrap (((h.n * 8 : Nat) : Int) / 2 ^ (8 * (k : Int)).toNat))))) := (HKW.out.setCell _ _ (.inr rfl)).drew
            first | exact ⟨k + 1, by omega, by go_num, h9, h10⟩ | (repeat apply Exists.intro; exact ⟨⟨k + 1, by omega, by go_num, h9, h10⟩, rfl⟩)
          case measure => simp [intOf]; omega
        · obtain rfl : k = 8 := by omega
          go_wp2
          go_still_tail 6, (by kernel_rfl)
          change wpList _ _ _ _ _ (World.drew wo)
          obtain ⟨wm, hwm⟩ : ∃ wm, World.drew wo = wm := ⟨_, rfl⟩
          rw [hwm]
          have HWM : Hid (Whole wm B 116 (hcells (s1) (tailCh c2 (h.n * 8) 8) h.n)) := Lib.hid (by rw [← hwm]; exact HX.out)
          have HKM : Hid (Keeps (fun k => k = B) w wm) := Lib.hid (by rw [← hwm]; exact Keeps.drew HKW.out)
          have HNN : Hid (∀ t, t < 64 → wm.cell? ⟨0, t, none⟩ = some (.int .u32 (wn (roundKs.getD t 0)))) := Lib.hid (HN.out.keep HKM.out (by have := HH.out.pos; omega))
          clear hwm
          go_wp2_with fail
          ((with_reducible refine (mix_any B h.n _ _ _ HWM.out (tailCh_length _ _ _ HCT.out (by omega)) HH.out.pos HNN.out).mono ?_); rintro e w6 ⟨rfl, hw5, hk5⟩)
          have HW5 := Lib.hid hw5
          have HK5 : Hid (Keeps (fun k => k = B) w w6) := Lib.hid (HKM.out.trans hk5 (fun _ _ e => e))
          clear hw5 hk5 HWM HKM HNN
          go_wp2
          go_end0
          have HFF : finish h = ⟨mixed s1 (tailCh c2 (h.n * 8) 8), tailCh c2 (h.n * 8) 8, h.n⟩ := by unfold finish; rw [HFIN.out]
          exact ⟨rfl, by rw [HFF]; exact ⟨HW5.out, tailCh_length _ _ _ HCT.out (by omega), HH.out.small, HH.out.pos⟩, HK5.out⟩
    · have hn63 : ¬ 64 = p + 1 := by omega
      rw [if_neg h63] at HRUN
      go_enter Tryd.func67, Tryd.ntmps67
      go_wp2_with fail
      ((with_reducible refine (filled_any B h _ HH.out).mono ?_); rintro e w1 ⟨rfl, hw1⟩; replace hw1 := hw1.symm; subst hw1)
      rw [HP.out]
      go_wp2_with (refine wpList_clear_run (by rfl) _ 33 (by rfl) _ _ _ (by rfl) HRUN.out ?_)
      go_still_tail 6, (by kernel_rfl)
      change wpList _ _ _ _ _ (World.drew w2)
      obtain ⟨wm, hwm⟩ : ∃ wm, World.drew w2 = wm := ⟨_, rfl⟩
      rw [hwm]
      have HWM : Hid (Whole wm B 116 (hcells (h.s) (endCh h.ch p) h.n)) := Lib.hid (by rw [← hwm]; exact HWH2.out)
      have HKM : Hid (Keeps (fun k => k = B) w wm) := Lib.hid (by rw [← hwm]; exact Keeps.drew HK2.out)
      have HNN : Hid (∀ t, t < 64 → wm.cell? ⟨0, t, none⟩ = some (.int .u32 (wn (roundKs.getD t 0)))) := Lib.hid (HN.out.keep HKM.out (by have := HH.out.pos; omega))
      clear hwm
      go_wp2_with fail
      ((with_reducible refine (mix_any B h.n _ _ _ HWM.out HECL.out HH.out.pos HNN.out).mono ?_); rintro e w5 ⟨rfl, hw5, hk5⟩)
      have HW5 := Lib.hid hw5
      have HK5 : Hid (Keeps (fun k => k = B) w w5) := Lib.hid (HKM.out.trans hk5 (fun _ _ e => e))
      clear hw5 hk5 HWM HKM HNN
      obtain ⟨w7, hrun7, hwz7, _, hk7⟩ := run_clear_whole (P := Tryd.prog) w5 33 0 5 i0 B 8 64 64 _ _ Tryd.underlying33 hi0 hz0 HW5.out (fun _ => by rw [hcells_length _ _ _ HECL.out]; omega)
      obtain ⟨s1, hs1⟩ : ∃ s1, mixed h.s (endCh h.ch p) = s1 := ⟨_, rfl⟩
      obtain ⟨c2, hc2⟩ : ∃ c2 : List UInt8, List.replicate 64 0 = c2 := ⟨_, rfl⟩
      have HCT : Hid (c2.length = 64) := Lib.hid (by rw [← hc2]; simp)
      have HWT : Hid (Whole w7 B 116 (hcells s1 c2 h.n)) := Lib.hid (by
        have h8 := hwz7 (by omega)
        have e8 := hcells_splice (mixed h.s (endCh h.ch p)) (endCh h.ch p) (List.replicate 64 0) h.n 0 HECL.out (by simp)
        simp only [Nat.add_zero, List.length_replicate, List.take_zero, List.nil_append, Nat.zero_add] at e8
        rw [e8, List.drop_of_length_le (by rw [HECL.out]; omega), List.append_nil] at h8
        rw [← hs1, ← hc2]; exact h8)
      have HKT : Hid (Keeps (fun k => k = B) w w7) := Lib.hid (HK5.out.trans hk7 (fun _ _ e => e))
      have HFIN : Hid (fin1 h = (s1, c2)) := Lib.hid (by unfold fin1; rw [HP.out, if_pos (by omega), hs1, hc2])
      have HRUN7 := Lib.hid hrun7
      clear hrun7 hwz7 hk7 hs1 hc2 HW5 HK5
      go_wp2_with (refine wpList_clear_run (by rfl) _ 33 (by rfl) _ _ _ (by rfl) HRUN7.out ?_)
      go_wp2
      go_loopw [4, 36] (fun _ i wr => ∃ k : Nat, k ≤ 8 ∧ i = .int .i64 k ∧ Whole wr B 116 (hcells s1 (tailCh c2 (h.n * 8) k) h.n) ∧ Keeps (fun k => k = B) w wr) (fun _ i _ => 8 - (intOf i).toNat)
      case atStart => exact ⟨0, by omega, rfl, by rw [tailCh_zero _ _ HCT.out]; exact HWT.out, HKT.out⟩
      case round =>
        clear HWT HKT
        obtain ⟨k, hk, rfl, hx, hkw⟩ := hrel
        obtain ⟨wo, rfl⟩ : ∃ wo : World, wo = wr := ⟨_, rfl⟩
        have HX := Lib.hid hx
        have HKW := Lib.hid hkw
        clear hx hkw
        by_cases hk8 : k < 8
        · obtain ⟨gb, hgb⟩ : ∃ gb : UInt8, (tailCh c2 (h.n * 8) k).getD (63 - k) 0 = gb := ⟨_, rfl⟩
          have cx : wo.cell? ⟨B, 8 + (63 - k), none⟩ = some (.int .u8 ((gb.toNat : Nat) : Int)) := by
            rw [← hgb]; exact HX.out.cell (hcells_byte _ _ _ _ (tailCh_length _ _ _ HCT.out hk) (by omega))
          have fx := HX.out.free (8 + (63 - k))
          clear hgb
          have s1' : IntKind.i64.wrap (63 - (k : Int)) = 63 - (k : Int) := IntWalk.i64_in _ (by omega)
          have s2 : IntKind.i64.wrap (8 * (k : Int)) = 8 * (k : Int) := IntWalk.i64_in _ (by omega)
          have s3 : (0 : Int) ≤ 63 - (k : Int) := by omega
          have s4 : 63 - (k : Int) < 64 := by omega
          have s5 : (63 - (k : Int)).toNat = 63 - k := by omega
          have s6 : (0 : Int) ≤ 8 * (k : Int) := by omega
          have s7 : (k : Int) ≤ 63 := by omega
          have s8 : 8 * (k : Int) < 64 := by omega
          have hk9 : (k : Int) < 8 := by omega
          go_wp2
          go_still_tail 11, (by kernel_rfl)
          change wpList _ _ _ _ _ (World.drew wo)
          go_wp2
          go_roundw
          case rel =>
            have h9 := HX.out.set (8 + (63 - k)) (.int .u8 ((UInt8.ofNat (h.n * 8 / 256 ^ k)).toNat : Int))
            rw [hcells_setbyte _ _ _ _ _ (tailCh_length _ _ _ HCT.out hk) (by omega), tailCh_succ _ _ _ HCT.out hk8, ← byte_at'] at h9
            have h10 : Keeps (fun k => k = B) w (World.drew (wo.setCell ⟨B, 8 + (63 - k), none⟩ (.int .u8 (IntKind.u8.wrap (((h.n * 8 : Nat) : Int) / 2 ^ (8 * (k : Int)).toNat))))) := (HKW.out.setCell _ _ (.inr rfl)).drew
            first | exact ⟨k + 1, by omega, by go_num, h9, h10⟩ | (repeat apply Exists.intro; exact ⟨⟨k + 1, by omega, by go_num, h9, h10⟩, rfl⟩)
          case measure => simp [intOf]; omega
        · obtain rfl : k = 8 := by omega
          go_wp2
          go_still_tail 6, (by kernel_rfl)
          change wpList _ _ _ _ _ (World.drew wo)
          obtain ⟨wm, hwm⟩ : ∃ wm, World.drew wo = wm := ⟨_, rfl⟩
          rw [hwm]
          have HWM : Hid (Whole wm B 116 (hcells (s1) (tailCh c2 (h.n * 8) 8) h.n)) := Lib.hid (by rw [← hwm]; exact HX.out)
          have HKM : Hid (Keeps (fun k => k = B) w wm) := Lib.hid (by rw [← hwm]; exact Keeps.drew HKW.out)
          have HNN : Hid (∀ t, t < 64 → wm.cell? ⟨0, t, none⟩ = some (.int .u32 (wn (roundKs.getD t 0)))) := Lib.hid (HN.out.keep HKM.out (by have := HH.out.pos; omega))
          clear hwm
          go_wp2_with fail
          ((with_reducible refine (mix_any B h.n _ _ _ HWM.out (tailCh_length _ _ _ HCT.out (by omega)) HH.out.pos HNN.out).mono ?_); rintro e w6 ⟨rfl, hw5, hk5⟩)
          have HW5 := Lib.hid hw5
          have HK5 : Hid (Keeps (fun k => k = B) w w6) := Lib.hid (HKM.out.trans hk5 (fun _ _ e => e))
          clear hw5 hk5 HWM HKM HNN
          go_wp2
          go_end0
          have HFF : finish h = ⟨mixed s1 (tailCh c2 (h.n * 8) 8), tailCh c2 (h.n * 8) 8, h.n⟩ := by unfold finish; rw [HFIN.out]
          exact ⟨rfl, by rw [HFF]; exact ⟨HW5.out, tailCh_length _ _ _ HCT.out (by omega), HH.out.small, HH.out.pos⟩, HK5.out⟩
  · have h63 : ¬ p = 63 := by omega
    have hn63 : ¬ 64 = p + 1 := by omega
    rw [if_neg h63] at HRUN
    go_enter Tryd.func67, Tryd.ntmps67
    go_wp2_with fail
    ((with_reducible refine (filled_any B h _ HH.out).mono ?_); rintro e w1 ⟨rfl, hw1⟩; replace hw1 := hw1.symm; subst hw1)
    rw [HP.out]
    obtain ⟨s1, hs1⟩ : ∃ s1, h.s = s1 := ⟨_, rfl⟩
    obtain ⟨c2, hc2⟩ : ∃ c2 : List UInt8, endCh h.ch p = c2 := ⟨_, rfl⟩
    have HCT : Hid (c2.length = 64) := Lib.hid (by rw [← hc2]; exact HECL.out)
    have HWT : Hid (Whole w2 B 116 (hcells s1 c2 h.n)) := Lib.hid (by rw [← hs1, ← hc2]; exact HWH2.out)
    have HKT := HK2
    have HFIN : Hid (fin1 h = (s1, c2)) := Lib.hid (by unfold fin1; rw [HP.out, if_neg (by omega), hs1, hc2])
    clear hs1 hc2
    go_wp2_with (refine wpList_clear_run (by rfl) _ 33 (by rfl) _ _ _ (by rfl) HRUN.out ?_)
    go_wp2
    go_loopw [4, 36] (fun _ i wr => ∃ k : Nat, k ≤ 8 ∧ i = .int .i64 k ∧ Whole wr B 116 (hcells s1 (tailCh c2 (h.n * 8) k) h.n) ∧ Keeps (fun k => k = B) w wr) (fun _ i _ => 8 - (intOf i).toNat)
    case atStart => exact ⟨0, by omega, rfl, by rw [tailCh_zero _ _ HCT.out]; exact HWT.out, HKT.out⟩
    case round =>
      clear HWT HKT
      obtain ⟨k, hk, rfl, hx, hkw⟩ := hrel
      obtain ⟨wo, rfl⟩ : ∃ wo : World, wo = wr := ⟨_, rfl⟩
      have HX := Lib.hid hx
      have HKW := Lib.hid hkw
      clear hx hkw
      by_cases hk8 : k < 8
      · obtain ⟨gb, hgb⟩ : ∃ gb : UInt8, (tailCh c2 (h.n * 8) k).getD (63 - k) 0 = gb := ⟨_, rfl⟩
        have cx : wo.cell? ⟨B, 8 + (63 - k), none⟩ = some (.int .u8 ((gb.toNat : Nat) : Int)) := by
          rw [← hgb]; exact HX.out.cell (hcells_byte _ _ _ _ (tailCh_length _ _ _ HCT.out hk) (by omega))
        have fx := HX.out.free (8 + (63 - k))
        clear hgb
        have s1' : IntKind.i64.wrap (63 - (k : Int)) = 63 - (k : Int) := IntWalk.i64_in _ (by omega)
        have s2 : IntKind.i64.wrap (8 * (k : Int)) = 8 * (k : Int) := IntWalk.i64_in _ (by omega)
        have s3 : (0 : Int) ≤ 63 - (k : Int) := by omega
        have s4 : 63 - (k : Int) < 64 := by omega
        have s5 : (63 - (k : Int)).toNat = 63 - k := by omega
        have s6 : (0 : Int) ≤ 8 * (k : Int) := by omega
        have s7 : (k : Int) ≤ 63 := by omega
        have s8 : 8 * (k : Int) < 64 := by omega
        have hk9 : (k : Int) < 8 := by omega
        go_wp2
        go_still_tail 11, (by kernel_rfl)
        change wpList _ _ _ _ _ (World.drew wo)
        go_wp2
        go_roundw
        case rel =>
          have h9 := HX.out.set (8 + (63 - k)) (.int .u8 ((UInt8.ofNat (h.n * 8 / 256 ^ k)).toNat : Int))
          rw [hcells_setbyte _ _ _ _ _ (tailCh_length _ _ _ HCT.out hk) (by omega), tailCh_succ _ _ _ HCT.out hk8, ← byte_at'] at h9
          have h10 : Keeps (fun k => k = B) w (World.drew (wo.setCell ⟨B, 8 + (63 - k), none⟩ (.int .u8 (IntKind.u8.wrap (((h.n * 8 : Nat) : Int) / 2 ^ (8 * (k : Int)).toNat))))) := (HKW.out.setCell _ _ (.inr rfl)).drew
          first | exact ⟨k + 1, by omega, by go_num, h9, h10⟩ | (repeat apply Exists.intro; exact ⟨⟨k + 1, by omega, by go_num, h9, h10⟩, rfl⟩)
        case measure => simp [intOf]; omega
      · obtain rfl : k = 8 := by omega
        go_wp2
        go_still_tail 6, (by kernel_rfl)
        change wpList _ _ _ _ _ (World.drew wo)
        obtain ⟨wm, hwm⟩ : ∃ wm, World.drew wo = wm := ⟨_, rfl⟩
        rw [hwm]
        have HWM : Hid (Whole wm B 116 (hcells (s1) (tailCh c2 (h.n * 8) 8) h.n)) := Lib.hid (by rw [← hwm]; exact HX.out)
        have HKM : Hid (Keeps (fun k => k = B) w wm) := Lib.hid (by rw [← hwm]; exact Keeps.drew HKW.out)
        have HNN : Hid (∀ t, t < 64 → wm.cell? ⟨0, t, none⟩ = some (.int .u32 (wn (roundKs.getD t 0)))) := Lib.hid (HN.out.keep HKM.out (by have := HH.out.pos; omega))
        clear hwm
        go_wp2_with fail
        ((with_reducible refine (mix_any B h.n _ _ _ HWM.out (tailCh_length _ _ _ HCT.out (by omega)) HH.out.pos HNN.out).mono ?_); rintro e w6 ⟨rfl, hw5, hk5⟩)
        have HW5 := Lib.hid hw5
        have HK5 : Hid (Keeps (fun k => k = B) w w6) := Lib.hid (HKM.out.trans hk5 (fun _ _ e => e))
        clear hw5 hk5 HWM HKM HNN
        go_wp2
        go_end0
        have HFF : finish h = ⟨mixed s1 (tailCh c2 (h.n * 8) 8), tailCh c2 (h.n * 8) 8, h.n⟩ := by unfold finish; rw [HFIN.out]
        exact ⟨rfl, by rw [HFF]; exact ⟨HW5.out, tailCh_length _ _ _ HCT.out (by omega), HH.out.small, HH.out.pos⟩, HK5.out⟩

end Go.Proofs.YtafgiljgefeefaaDoor
namespace Go.Proofs.YtafgiljgefeefaaDoor
open Go.RowKit
set_option linter.unusedVariables false

/-- The digest's bytes. -/
def sumByte (s : St) (j : Nat) : UInt8 := UInt8.ofNat ((s.list.getD (j / 4) 0).toNat / 256 ^ (3 - j % 4))
def sumTo (s : St) (j : Nat) : List UInt8 := (List.range j).map (sumByte s) ++ List.replicate (32 - j) 0
theorem sumTo_length (s : St) (j : Nat) (h : j ≤ 32) : (sumTo s j).length = 32 := by unfold sumTo; simp; omega
theorem sumTo_succ (s : St) (j : Nat) (h : j < 32) : (sumTo s j).set j (sumByte s j) = sumTo s (j + 1) := by
  unfold sumTo
  rw [List.set_append_right _ _ (by simp), List.range_succ, List.map_append, List.append_assoc]
  obtain ⟨m, hm⟩ : ∃ m, 32 - j = m + 1 := ⟨31 - j, by omega⟩
  rw [hm, show 32 - (j + 1) = m from by omega, List.replicate_succ]
  simp
def digest (h : HS) : List UInt8 := sumTo (finish h).s 32
theorem digest_length (h : HS) : (digest h).length = 32 := sumTo_length _ _ (by omega)

theorem sum_shift' (x : Wd) (k : Nat) (hk : k < 4) : wn x / 2 ^ (24 - 8 * k) % 256 = ((UInt8.ofNat (x.toNat / 256 ^ (3 - k))).toNat : Int) := by
  have h1 : ((2 : Int) ^ (24 - 8 * k)) = ((256 ^ (3 - k) : Nat) : Int) := by
    rw [show ((2 : Int) ^ (24 - 8 * k)) = ((2 ^ (24 - 8 * k) : Nat) : Int) from by push_cast; rfl, show 24 - 8 * k = 8 * (3 - k) from by omega, Nat.pow_mul]
  rw [h1, UInt8.toNat_ofNat']
  unfold wn
  rw [← Int.natCast_ediv]
  omega
theorem u8s_all (bs : List UInt8) : (u8s bs).toArray.all (·.oneCell') = true := by
  rw [Array.all_eq_true_iff_forall_mem]
  intro v hv
  exact u8s_cell bs v (by simpa using hv)

theorem cells_all (s : St) (ch : List UInt8) (n : Nat) : (hcells s ch n).toArray.all (·.oneCell') = true := by
  rw [Array.all_eq_true_iff_forall_mem]
  intro v hv
  simp only [hcells, u32s, u8s, List.mem_toArray, List.mem_append, List.mem_map, List.mem_singleton] at hv
  rcases hv with (⟨_, _, rfl⟩ | ⟨_, _, rfl⟩) | rfl <;> rfl

def zst : St := ⟨0, 0, 0, 0, 0, 0, 0, 0⟩
def zcells : List Value := hcells zst (List.replicate 64 0) 0
theorem zcells_length : zcells.length = 73 := hcells_length _ _ _ (by simp)
theorem Tryd.zeroHasher (w : World) : (zeroValue 116).run Tryd.prog w = .ok (.agg zcells.toArray) w := by kernel_rfl

set_option maxRecDepth 100000 in
set_option maxHeartbeats 12800000 in
theorem sum_any (B : Nat) (h : HS) (w : World) (hh : HasherAt w B h) (hN : Nums w) :
    Calls Tryd.prog 55 #[.pointer (some ⟨B, 0, none⟩)] w fun e w' => e = .returned (.agg (u8s (digest h)).toArray) ∧ Same w w' := by
  have HN := Lib.hid hN
  have HH := Lib.hid hh
  have h0 : 0 < w.heap.size := World.block_lt_of_cell? w _ (hN 0 (by omega))
  have hi46 : (Tryd.prog.info? 116).map (·.size) = some h.cells.toArray.size := by
    have e : h.cells.toArray.size = 73 := by rw [List.size_toArray]; exact hcells_length _ _ _ hh.len
    have e2 : (Tryd.prog.info? 116).map (·.size) = some 73 := by kernel_rfl
    rw [e]; exact e2
  have HI46 := Lib.hid hi46
  have HG : Hid (w.heap[B]? = some (.cells h.cells.toArray 116 (0, 0))) := Lib.hid hh.whole
  have hBl := hh.whole.lt
  have hz := Tryd.zeroHasher
  have hsz : zcells.toArray.size = h.cells.toArray.size := by rw [List.size_toArray, List.size_toArray, zcells_length]; exact (hcells_length _ _ _ hh.len).symm
  have HSZ := Lib.hid hsz
  clear hN hh hi46 hsz
  go_enter Tryd.func55, Tryd.ntmps55
  go_wp2_with (first
    | (refine wpList_load_row (by rfl) 116 _ (by rfl) B (by rfl) 116 h.cells.toArray (0, 0) _ (((Keeps.refl (fun _ => False) w).alloc _).obj HG.out (fun e => e)) Tryd.underlying116 rfl HI46.out ?_)
    | (refine wpList_store_row (by rfl) 116 _ _ (by rfl) (w.heap.size + 1) h.cells.toArray (by rfl) (by rfl) 116 zcells.toArray (by have h9 := heap_alloc_new (w.alloc (.cells #[.int .u8 0, .int .u8 0, .int .u8 0, .int .u8 0, .int .u8 0, .int .u8 0, .int .u8 0, .int .u8 0, .int .u8 0, .int .u8 0, .int .u8 0, .int .u8 0, .int .u8 0, .int .u8 0, .int .u8 0, .int .u8 0, .int .u8 0, .int .u8 0, .int .u8 0, .int .u8 0, .int .u8 0, .int .u8 0, .int .u8 0, .int .u8 0, .int .u8 0, .int .u8 0, .int .u8 0, .int .u8 0, .int .u8 0, .int .u8 0, .int .u8 0, .int .u8 0] 32)) (.cells zcells.toArray 116); simpa using h9) HI46.out HSZ.out (cells_all _ _ _) ?_))
  refine (finish_any (w.heap.size + 1) h _ ?hA ?hN).mono ?hK
  case hA => exact ⟨Whole.row (cs := zcells) (by have h9 := heap_alloc_new (w.alloc (.cells #[.int .u8 0, .int .u8 0, .int .u8 0, .int .u8 0, .int .u8 0, .int .u8 0, .int .u8 0, .int .u8 0, .int .u8 0, .int .u8 0, .int .u8 0, .int .u8 0, .int .u8 0, .int .u8 0, .int .u8 0, .int .u8 0, .int .u8 0, .int .u8 0, .int .u8 0, .int .u8 0, .int .u8 0, .int .u8 0, .int .u8 0, .int .u8 0, .int .u8 0, .int .u8 0, .int .u8 0, .int .u8 0, .int .u8 0, .int .u8 0, .int .u8 0, .int .u8 0] 32)) (.cells zcells.toArray 116); unfold Whole; simpa using h9), HH.out.len, HH.out.small, by omega⟩
  case hN => exact HN.out.keep (S := fun _ => False) ((((Keeps.refl _ _).alloc _).alloc _).setRow _ _ (.inl (by omega))) (fun e => e)
  case hK =>
    rintro e w3 ⟨rfl, hha, hk3⟩
    have HHA := Lib.hid hha
    have hk03 : Same w w3 := ((((Keeps.refl (fun _ => False) w).alloc (.cells #[.int .u8 0, .int .u8 0, .int .u8 0, .int .u8 0, .int .u8 0, .int .u8 0, .int .u8 0, .int .u8 0, .int .u8 0, .int .u8 0, .int .u8 0, .int .u8 0, .int .u8 0, .int .u8 0, .int .u8 0, .int .u8 0, .int .u8 0, .int .u8 0, .int .u8 0, .int .u8 0, .int .u8 0, .int .u8 0, .int .u8 0, .int .u8 0, .int .u8 0, .int .u8 0, .int .u8 0, .int .u8 0, .int .u8 0, .int .u8 0, .int .u8 0, .int .u8 0] 32)).alloc (.cells zcells.toArray 116)).setRow (w.heap.size + 1) h.cells.toArray (.inl (by omega))).trans hk3 (fun j hj e => by omega)
    have HK := Lib.hid hk03
    have hr3 : Whole w3 w.heap.size 32 (u8s (List.replicate 32 0)) := by
      have h1 : Whole (((w.alloc (.cells #[.int .u8 0, .int .u8 0, .int .u8 0, .int .u8 0, .int .u8 0, .int .u8 0, .int .u8 0, .int .u8 0, .int .u8 0, .int .u8 0, .int .u8 0, .int .u8 0, .int .u8 0, .int .u8 0, .int .u8 0, .int .u8 0, .int .u8 0, .int .u8 0, .int .u8 0, .int .u8 0, .int .u8 0, .int .u8 0, .int .u8 0, .int .u8 0, .int .u8 0, .int .u8 0, .int .u8 0, .int .u8 0, .int .u8 0, .int .u8 0, .int .u8 0, .int .u8 0] 32)).alloc (.cells zcells.toArray 116)).setRow (w.heap.size + 1) h.cells.toArray) w.heap.size 32 (u8s (List.replicate 32 0)) := by
        have h2 : Whole (w.alloc (.cells #[.int .u8 0, .int .u8 0, .int .u8 0, .int .u8 0, .int .u8 0, .int .u8 0, .int .u8 0, .int .u8 0, .int .u8 0, .int .u8 0, .int .u8 0, .int .u8 0, .int .u8 0, .int .u8 0, .int .u8 0, .int .u8 0, .int .u8 0, .int .u8 0, .int .u8 0, .int .u8 0, .int .u8 0, .int .u8 0, .int .u8 0, .int .u8 0, .int .u8 0, .int .u8 0, .int .u8 0, .int .u8 0, .int .u8 0, .int .u8 0, .int .u8 0, .int .u8 0] 32)) w.heap.size 32 (u8s (List.replicate 32 0)) := heap_alloc_new w _
        exact ((h2.keep ((Keeps.refl (fun _ => False) _).alloc _) (fun e => e))).keep (keeps_setRow _ _ _) (by omega)
      exact h1.keep hk3 (by omega)
    have HR3 := Lib.hid hr3
    have hsz3 : w.heap.size + 1 < w3.heap.size := hha.whole.lt
    clear hk3 hk03 hha hr3
    obtain ⟨f, hf⟩ : ∃ f, finish h = f := ⟨_, rfl⟩
    rw [hf] at HHA
    have HF := Lib.hid hf
    clear hf
    have HWF : Hid (Whole w3 (w.heap.size + 1) 116 (hcells f.s f.ch f.n)) := Lib.hid HHA.out.whole
    have d0 : w3.cell? ⟨w.heap.size + 1, 0, none⟩ = some (.int .u32 (wn f.s.a)) := HWF.out.cell (hcells_word f.s f.ch f.n 0 (by omega))
    have d1 : w3.cell? ⟨w.heap.size + 1, 1, none⟩ = some (.int .u32 (wn f.s.b)) := HWF.out.cell (hcells_word f.s f.ch f.n 1 (by omega))
    have d2 : w3.cell? ⟨w.heap.size + 1, 2, none⟩ = some (.int .u32 (wn f.s.c)) := HWF.out.cell (hcells_word f.s f.ch f.n 2 (by omega))
    have d3 : w3.cell? ⟨w.heap.size + 1, 3, none⟩ = some (.int .u32 (wn f.s.d)) := HWF.out.cell (hcells_word f.s f.ch f.n 3 (by omega))
    have d4 : w3.cell? ⟨w.heap.size + 1, 4, none⟩ = some (.int .u32 (wn f.s.e)) := HWF.out.cell (hcells_word f.s f.ch f.n 4 (by omega))
    have d5 : w3.cell? ⟨w.heap.size + 1, 5, none⟩ = some (.int .u32 (wn f.s.f)) := HWF.out.cell (hcells_word f.s f.ch f.n 5 (by omega))
    have d6 : w3.cell? ⟨w.heap.size + 1, 6, none⟩ = some (.int .u32 (wn f.s.g)) := HWF.out.cell (hcells_word f.s f.ch f.n 6 (by omega))
    have d7 : w3.cell? ⟨w.heap.size + 1, 7, none⟩ = some (.int .u32 (wn f.s.h)) := HWF.out.cell (hcells_word f.s f.ch f.n 7 (by omega))
    have HK4 : Hid (∀ o, Same w (w3.alloc o)) := Lib.hid fun o => HK.out.alloc o
    go_wp2
    clear d0 d1 d2 d3 d4 d5 d6 d7
    go_loopw [5, 6, 7, 14] (fun _ _ _ i wr => ∃ j : Nat, j ≤ 8 ∧ i = .int .i64 j ∧ Whole wr w3.heap.size 32 (u8s (sumTo f.s (4 * j))) ∧ Keeps (fun k => k = w3.heap.size) w3 wr) (fun _ _ _ i _ => 8 - (intOf i).toNat)
    case atStart => exact ⟨0, by omega, rfl, heap_alloc_new w3 _, (Keeps.refl _ _).alloc _⟩
    case round =>
      obtain ⟨j, hj, rfl, hx, hk⟩ := hrel
      obtain ⟨wo, rfl⟩ : ∃ wo : World, wo = wr := ⟨_, rfl⟩
      have HX := Lib.hid hx
      have HKO := Lib.hid hk
      have hwo := hx.lt
      clear hx hk
      by_cases hj8 : j < 8
      · have hidx : ∀ w', (Instr.index 113 (.agg #[.int .u32 (wn f.s.a), .int .u32 (wn f.s.b), .int .u32 (wn f.s.c), .int .u32 (wn f.s.d), .int .u32 (wn f.s.e), .int .u32 (wn f.s.f), .int .u32 (wn f.s.g), .int .u32 (wn f.s.h)]) (.int .i64 (j : Int))).run Tryd.prog w' = .ok (.int .u32 (wn (f.s.list.getD j 0))) w' := by
          intro w'
          rcases (by omega : j = 0 ∨ j = 1 ∨ j = 2 ∨ j = 3 ∨ j = 4 ∨ j = 5 ∨ j = 6 ∨ j = 7) with rfl | rfl | rfl | rfl | rfl | rfl | rfl | rfl <;> rfl
        have HSB : Hid (∀ k, k < 4 → sumByte f.s (4 * j + k) = UInt8.ofNat ((f.s.list.getD j 0).toNat / 256 ^ (3 - k))) := Lib.hid fun k hk => by
          unfold sumByte
          rw [show (4 * j + k) / 4 = j from by omega, show (4 * j + k) % 4 = k from by omega]
        generalize f.s.list.getD j 0 = x at *
        have hj9 : (j : Int) < 8 := by omega
        have hj0 : (0 : Int) ≤ (j : Int) := by omega
        go_wp2
        go_loopw [7, 18] (fun _ i wr => ∃ k : Nat, k ≤ 4 ∧ i = .int .i64 k ∧ Whole wr w3.heap.size 32 (u8s (sumTo f.s (4 * j + k))) ∧ Keeps (fun k => k = w3.heap.size) w3 wr) (fun _ i _ => 4 - (intOf i).toNat)
        case atStart => exact ⟨0, by omega, rfl, HX.out, HKO.out⟩
        case round =>
          clear HX HKO
          obtain ⟨k, hk, rfl, hx, hk2⟩ := hrel
          obtain ⟨wp, rfl⟩ : ∃ wp : World, wp = wr := ⟨_, rfl⟩
          have HX := Lib.hid hx
          have HKO := Lib.hid hk2
          clear hx hk2
          by_cases hk4 : k < 4
          · have cx := HX.out.cell (i := 4 * j + k) (u8s_get _ _ (by rw [sumTo_length _ _ (by omega)]; omega))
            have fx := HX.out.free (4 * j + k)
            have xb := wn_bound x
            have hk9 : (k : Int) < 4 := by omega
            have hb1 : 4 * (j : Int) + (k : Int) < 32 := by omega
            have hb2 : (4 * (j : Int) + (k : Int)).toNat = 4 * j + k := by omega
            have hb3 : (0 : Int) ≤ 24 - 8 * (k : Int) := by omega
            have hb4 : 24 - 8 * (k : Int) < 32 := by omega
            go_wp2
            go_roundw
            case rel =>
              have h9 := HX.out.set (4 * j + k) (.int .u8 ((sumByte f.s (4 * j + k)).toNat : Int))
              rw [← u8s_set, sumTo_succ _ _ (by omega), HSB.out k hk4, ← sum_shift' _ _ hk4] at h9
              have h10 : Keeps (fun k => k = w3.heap.size) w3 (wp.setCell ⟨w3.heap.size, 4 * j + k, none⟩ (.int .u8 (wn x / 2 ^ (24 - 8 * k) % 256))) := HKO.out.setCell _ _ (.inl (Nat.le_refl _))
              first | exact ⟨k + 1, by omega, by go_num, h9, h10⟩ | (repeat apply Exists.intro; exact ⟨⟨k + 1, by omega, by go_num, h9, h10⟩, rfl⟩)
            case measure => simp [intOf]; omega
          · obtain rfl : k = 4 := by omega
            go_wp2
            go_roundw
            case rel =>
              have h9 := HX.out
              rw [show 4 * j + 4 = 4 * (j + 1) from by omega] at h9
              first | exact ⟨j + 1, by omega, by go_num, h9, HKO.out⟩ | (repeat apply Exists.intro; exact ⟨⟨j + 1, by omega, by go_num, h9, HKO.out⟩, rfl⟩)
            case measure => simp [intOf]; omega
      · obtain rfl : j = 8 := by omega
        have hi25 : (Tryd.prog.info? 32).map (·.size) = some (u8s (sumTo f.s (4 * 8))).toArray.size := by
          have e : (u8s (sumTo f.s (4 * 8))).toArray.size = 32 := by rw [List.size_toArray, u8s_length]; exact sumTo_length _ _ (by omega)
          have e2 : (Tryd.prog.info? 32).map (·.size) = some 32 := by kernel_rfl
          rw [e]; exact e2
        have HI25 := Lib.hid hi25
        have hR : Whole wo w.heap.size 32 (u8s (List.replicate 32 0)) := HR3.out.keep HKO.out (by omega)
        have HRR := Lib.hid hR
        have HSZ2 : Hid ((u8s (List.replicate 32 0)).toArray.size = (u8s (sumTo f.s (4 * 8))).toArray.size) := Lib.hid (by
          rw [List.size_toArray, List.size_toArray, u8s_length, u8s_length, sumTo_length _ _ (by omega)]; simp)
        have HEND : Hid (Same w (wo.setRow w.heap.size (u8s (sumTo f.s (4 * 8))).toArray) ∧ Whole (wo.setRow w.heap.size (u8s (sumTo f.s (4 * 8))).toArray) w.heap.size 32 (u8s (sumTo f.s (4 * 8)))) := Lib.hid
          ⟨(HK.out.trans HKO.out (fun j hj e => by omega)).setRow _ _ (.inl (Nat.le_refl _)), hR.row⟩
        clear hi25 hR
        go_wp2_with (first
          | (refine wpList_load_row (by rfl) 32 _ (by rfl) w3.heap.size (by rfl) 32 (u8s (sumTo f.s (4 * 8))).toArray (0, 0) _ HX.out Tryd.underlying32 rfl HI25.out ?_)
          | (refine wpList_store_row (by rfl) 32 _ _ (by rfl) w.heap.size (u8s (sumTo f.s (4 * 8))).toArray (by rfl) (by rfl) 32 (u8s (List.replicate 32 0)).toArray HRR.out HI25.out HSZ2.out (u8s_all _) ?_))
        refine bodyPost_ret (v := .agg (u8s (sumTo f.s (4 * 8))).toArray) (results_cell_row (p := 2) (ty := 32) rfl _ _ w.heap.size 32 _ (0, 0) _ (by rfl) HEND.out.2 Tryd.underlying32 rfl HI25.out) rfl ⟨?_, HEND.out.1⟩
        unfold digest
        rw [HF.out]

end Go.Proofs.YtafgiljgefeefaaDoor
namespace Go.Proofs.YtafgiljgefeefaaDoor
open Go.RowKit
set_option linter.unusedVariables false

theorem run_forIn_yield {β : Type} {P : Program} {w : World} (b : β) (f : Nat → β → Sem (ForInStep β)) : ∀ (l : List Nat), (∀ i ∈ l, (f i b).run P w = .ok (.yield b) w) → (forIn l b f).run P w = .ok b w
  | [], _ => by simp
  | i :: l, h => by
    rw [List.forIn_cons, Sem.run_bind, h i (by simp), Result.andThen_ok]
    exact run_forIn_yield b f l fun j hj => h j (by simp [hj])

theorem run_equal_refl {P : Program} (w : World) (d : Nat) (t e : TypeId) (i : TypeInfo) (n : Nat) (bs : List UInt8) (ht : P.underlying t = some (.array n e)) (he : P.underlying e = some (.int .u8)) (hi : P.info? e = some i) (hs : i.size = 1) (hl : bs.length = n) :
    (Op.equalIn (d + 2) t (.agg (u8s bs).toArray) (.agg (u8s bs).toArray)).run P w = .ok true w := by
  have hp : ∀ j, j < n → (part e (u8s bs).toArray j).run P w = .ok (.int .u8 ((bs.getD j 0).toNat : Int)) w := fun j hj => by
    have h1 := u8s_get bs j (by omega)
    simp [part, isAgg, run_underlying he, h1]
  have hbody := run_forIn_yield (P := P) (w := w) ((none, ()) : Option Bool × Unit) (fun j __s => do
            let x ← part e (u8s bs).toArray j
            let y ← part e (u8s bs).toArray j
            let z ← Op.equalIn (d + 1) e x y
            if z = false then pure (ForInStep.done (some false, ())) else pure (ForInStep.yield (none, ()))) (List.range' 0 n) (fun j hj => by
      have hj' : j < n := by
        have := List.mem_range'_1.1 hj; omega
      simp only [Sem.run_bind, hp j hj', Result.andThen_ok, run_equalIn_int w d e .u8 .u8 _ _ he]
      simp)
  unfold Op.equalIn
  simp only [Sem.run_bind, run_underlying ht, Result.andThen_ok, sizeOf, typeInfo]
  simp [hi, hs, hbody]

/-- The digest of bytes. -/
def shaOf (bs : List UInt8) : List UInt8 := digest (feed hs0 bs)
theorem shaOf_length (bs : List UInt8) : (shaOf bs).length = 32 := digest_length _

theorem Tryd.sizeHash (bs : List UInt8) (h : bs.length = 32) : (Tryd.prog.info? 32).map (·.size) = some (u8s bs).toArray.size := by
  have e : (u8s bs).toArray.size = 32 := by rw [List.size_toArray, u8s_length]; exact h
  have e2 : (Tryd.prog.info? 32).map (·.size) = some 32 := by kernel_rfl
  rw [e]; exact e2
theorem size32 (bs cs : List UInt8) (h : bs.length = 32) (h' : cs.length = 32) : (u8s bs).toArray.size = (u8s cs).toArray.size := by
  rw [List.size_toArray, List.size_toArray, u8s_length, u8s_length, h, h']

set_option maxRecDepth 100000 in
set_option maxHeartbeats 6400000 in
theorem shaSum_any (ao : Option Addr) (L cap : Nat) (bs : List UInt8) (w : World) (hb : Bytes w (.slice ao L cap) bs) (hL : bs.length = L) (hc : L ≤ cap) (hcm : cap ≤ 9223372036854775807) (hl : L ≤ 1000000) (hN : Nums w) :
    Calls Tryd.prog 37 #[.slice ao L cap] w fun e w' => e = .returned (.agg (u8s (shaOf bs)).toArray) ∧ Same w w' := by
  have HB := Lib.hid hb
  have HN := Lib.hid hN
  have HL := Lib.hid hL
  clear hb hN hL
  go_enter Tryd.func37, Tryd.ntmps37
  go_wp2_with fail
  ((with_reducible refine (new_any _ (by simp)).mono ?_); rintro e w2 ⟨rfl, hh2, hk2⟩)
  have HH2 : Hid (HasherAt w2 (w.heap.size + 1) hs0) := Lib.hid (by simpa using hh2)
  have HK2 : Hid (Same w w2) := Lib.hid (((Keeps.refl _ _).alloc _).trans hk2 (fun _ _ e => e))
  have HR2 : Hid (Whole w2 w.heap.size 32 (u8s (List.replicate 32 0))) := Lib.hid (by
    have h2 : Whole (w.alloc (.cells #[.int .u8 0, .int .u8 0, .int .u8 0, .int .u8 0, .int .u8 0, .int .u8 0, .int .u8 0, .int .u8 0, .int .u8 0, .int .u8 0, .int .u8 0, .int .u8 0, .int .u8 0, .int .u8 0, .int .u8 0, .int .u8 0, .int .u8 0, .int .u8 0, .int .u8 0, .int .u8 0, .int .u8 0, .int .u8 0, .int .u8 0, .int .u8 0, .int .u8 0, .int .u8 0, .int .u8 0, .int .u8 0, .int .u8 0, .int .u8 0, .int .u8 0, .int .u8 0] 32)) w.heap.size 32 (u8s (List.replicate 32 0)) := heap_alloc_new w _
    exact h2.keep hk2 (fun e => e))
  clear hh2 hk2
  go_wp2_with fail
  ((with_reducible refine (add_any (w.heap.size + 1) hs0 bs ao L cap _ HH2.out (HN.out.keep HK2.out (fun e => e)) (fun w' hk => HB.out.far (HL.out.symm) (HK2.out.any.trans hk (fun j _ e => e)) (fun j hj e => by omega)) HL.out hc hcm (by simp only [hs0]; omega)).mono ?_); rintro e w3 ⟨rfl, hh3, hk3⟩)
  have HH3 := Lib.hid hh3
  have HK3 : Hid (Same w w3) := Lib.hid (HK2.out.trans hk3 (fun j hj e => by omega))
  have HR3 : Hid (Whole w3 w.heap.size 32 (u8s (List.replicate 32 0))) := Lib.hid (HR2.out.keep hk3 (by omega))
  clear hh3 hk3
  go_wp2_with fail
  ((with_reducible refine (sum_any (w.heap.size + 1) (feed hs0 bs) _ HH3.out (HN.out.keep HK3.out (fun e => e))).mono ?_); rintro e w4 ⟨rfl, hk4⟩)
  have hs : digest (feed hs0 bs) = shaOf bs := rfl
  rw [hs]
  have HK4 : Hid (Same w w4) := Lib.hid (HK3.out.trans hk4 (fun _ _ e => e))
  have HR4 : Hid (Whole w4 w.heap.size 32 (u8s (List.replicate 32 0))) := Lib.hid (HR3.out.keep hk4 (fun e => e))
  have HI := Lib.hid (Tryd.sizeHash (shaOf bs) (shaOf_length bs))
  have HS := Lib.hid (size32 (List.replicate 32 0) (shaOf bs) (by simp) (shaOf_length bs))
  have HEND : Hid (Same w (w4.setRow w.heap.size (u8s (shaOf bs)).toArray) ∧ Whole (w4.setRow w.heap.size (u8s (shaOf bs)).toArray) w.heap.size 32 (u8s (shaOf bs))) := Lib.hid
    ⟨HK4.out.setRow _ _ (.inl (Nat.le_refl _)), HR4.out.row⟩
  clear hk4 hs
  go_wp2_with (refine wpList_store_row (by rfl) 32 _ _ (by rfl) w.heap.size (u8s (shaOf bs)).toArray (by rfl) (by rfl) 32 (u8s (List.replicate 32 0)).toArray HR4.out HI.out HS.out (u8s_all _) ?_)
  exact bodyPost_ret (v := .agg (u8s (shaOf bs)).toArray) (results_cell_row (p := 2) (ty := 32) rfl _ _ w.heap.size 32 _ (0, 0) _ (by rfl) HEND.out.2 Tryd.underlying32 rfl HI.out) rfl ⟨rfl, HEND.out.1⟩

theorem sha_nil : (shaOf []).take 4 = [227, 176, 196, 66] := by decide +kernel
theorem sha_abc : (shaOf [97, 98, 99]).take 4 = [186, 120, 22, 191] := by decide +kernel

end Go.Proofs.YtafgiljgefeefaaDoor
