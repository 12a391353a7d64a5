/- The walk of PackOrder. -/
import Derived.Test.YtomjgdlekfppkaaSpk02
namespace Go.Proofs.Ytomjgdlekfppkaa
open Go.RowKit
set_option linter.unusedVariables false

set_option maxRecDepth 100000 in
set_option maxHeartbeats 1600000 in
theorem order_size (a b size : Int) (h : size < 1 ∨ 8 < size) (w : World) :
    Calls Try.prog 6 #[.int .u64 a, .int .u64 b, .int .i64 size] w fun e w' => e = .returned (.bool true) ∧ Same w w' := by
  have hs : (size < 1) ∨ (¬ size < 1 ∧ 8 < size) := by omega
  rcases hs with hs | ⟨hs, hs2⟩
  all_goals
    go_enter Try.func6, Try.ntmps6
    go_wp2_with fail
    ((with_reducible refine (speaks_ok _).mono ?_); rintro e w1 ⟨rfl, hk1⟩)
    have HK := Lib.hid hk1
    clear hk1
    go_wp2_with fail
    ((with_reducible refine (uint_size _ _ _ (by omega) _).mono ?_); rintro e w2 ⟨rfl, rfl⟩)
    go_wp2
    go_ret
    exact ⟨rfl, (HK.out.alloc _).alloc _⟩

set_option maxRecDepth 100000 in
set_option maxHeartbeats 1600000 in
theorem order_great (a b size : Int) (h1 : 1 ≤ size) (h8 : size < 8) (w : World) (hgr : (a / 2 ^ (8 * size).toNat != 0) = true) (ha : 0 ≤ a) (ha2 : a < 18446744073709551616) (hb : 0 ≤ b) (hb2 : b < 18446744073709551616) :
    Calls Try.prog 6 #[.int .u64 a, .int .u64 b, .int .i64 size] w fun e w' => e = .returned (.bool true) ∧ Same w w' := by
  go_enter Try.func6, Try.ntmps6
  go_wp2_with fail
  ((with_reducible refine (speaks_ok _).mono ?_); rintro e w1 ⟨rfl, hk1⟩)
  have HK := Lib.hid hk1
  clear hk1
  go_wp2_with fail
  ((with_reducible refine (uint_great _ _ _ h1 h8 _ hgr).mono ?_); rintro e w2 ⟨rfl, rfl⟩)
  go_wp2
  all_goals
    go_ret
    refine ⟨?_, (HK.out.alloc _).alloc _⟩
  · have h2 : a / 2 ^ (8 * size).toNat ≤ b / 2 ^ (8 * size).toNat := Int.ediv_le_ediv (Int.pow_pos (by omega)) (by omega)
    have h3 : 0 < b / 2 ^ (8 * size).toNat := by
      have h4 : 0 ≤ a / 2 ^ (8 * size).toNat := Int.ediv_nonneg ha (Int.le_of_lt (Int.pow_pos (by omega)))
      rw [bne_iff_ne] at hgr; omega
    simp [h3]
  · have h3 : 0 < a / 2 ^ (8 * size).toNat := by
      have h4 : 0 ≤ a / 2 ^ (8 * size).toNat := Int.ediv_nonneg ha (Int.le_of_lt (Int.pow_pos (by omega)))
      rw [bne_iff_ne] at hgr; omega
    simp [h3]

/-- The second number is too great, the first one isn't. -/
theorem great_of (n size : Nat) (hn : ¬ n < 256 ^ size) : ((n : Int) / 2 ^ (8 * (size : Int)).toNat != 0) = true := by
  have e : (8 * (size : Int)).toNat = 8 * size := by omega
  have h2 : ((n : Int) / 2 ^ (8 * size)) = ((n / 2 ^ (8 * size) : Nat) : Int) := by simp
  have h : n / 2 ^ (8 * size) ≠ 0 := by
    rw [Nat.pow_mul]
    have := Nat.div_pos (Nat.le_of_not_lt hn) (Nat.pow_pos (n := size) (show 0 < 256 by omega))
    exact Nat.ne_of_gt this
  rw [e, h2, bne_iff_ne]
  exact Int.natCast_ne_zero.2 h

set_option maxRecDepth 100000 in
set_option maxHeartbeats 1600000 in
theorem order_second (a b size : Nat) (h1 : 1 ≤ size) (h8 : size < 8) (w : World) (ha : a < 256 ^ size) (hg : ((b : Int) / 2 ^ (8 * (size : Int)).toNat != 0) = true) (hab : (a : Int) < (b : Int)) :
    Calls Try.prog 6 #[.int .u64 a, .int .u64 b, .int .i64 size] w fun e w' => e = .returned (.bool true) ∧ Same w w' := by
  have HG := Lib.hid hg
  have q1 : (1 : Int) ≤ (size : Int) := by omega
  have q8 : (size : Int) < 8 := by omega
  clear hg
  go_enter Try.func6, Try.ntmps6
  go_wp2_with fail
  ((with_reducible refine (speaks_ok _).mono ?_); rintro e w1 ⟨rfl, hk1⟩)
  have HK := Lib.hid hk1
  have HP : Hid (∀ o, Pen 28 5 ((w1.alloc (.cells #[.slice none 0 0] 28)).alloc o) w1.heap.size (w1.heap.size + 1) none []) := Lib.hid fun o => (Pen.new _ _ w1).keeps ((Keeps.refl (fun _ => False) _).alloc o) (fun e => e) (fun _ _ e => e)
  clear hk1
  go_wp2_with fail
  ((with_reducible refine (uint_ok' w1.heap.size (w1.heap.size + 1) none [] a size _ _ _ (HP.out _) (by simp) h1 (by omega) ha (by omega) (by omega)).mono ?_); rintro e w2 ⟨rfl, hs⟩)
  have HS := Lib.hid hs
  clear hs
  go_wp2_with fail
  ((with_reducible refine (uint_great _ _ _ q1 q8 _ HG.out).mono ?_); rintro e w3 ⟨rfl, rfl⟩)
  go_wp2
  go_ret
  obtain ⟨row2, hp2, hk2, hm2⟩ := HS.out.ex
  refine ⟨?_, (((HK.out.alloc _).alloc _).trans hk2 ?_)⟩
  · have h3 : (0 : Int) < (b : Int) / 2 ^ (8 * size) := by
      have h := HG.out
      have h4 : 0 ≤ (b : Int) / 2 ^ (8 * size) := Int.ediv_nonneg (by omega) (Int.le_of_lt (Int.pow_pos (by omega)))
      rw [bne_iff_ne, show (8 * (size : Int)).toNat = 8 * size from by omega] at h; omega
    simp [h3]
  · rintro j hj (e | e)
    · have := HK.out.size; omega
    · simp at e

end Go.Proofs.Ytomjgdlekfppkaa
