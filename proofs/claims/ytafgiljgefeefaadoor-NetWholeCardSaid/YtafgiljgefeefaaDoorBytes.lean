/- Numbers in bytes, the greatest first: their order is the bytes' order. No program is named here. -/
import Derived.Test.YtafgiljgefeefaaDoorKit
namespace Go.Proofs.YtafgiljgefeefaaDoor

/-- A number in so many bytes, the greatest first. -/
def be (n size : Nat) : List UInt8 := (List.range size).map fun j => UInt8.ofNat (n / 256 ^ (size - 1 - j))
theorem be_length (n size : Nat) : (be n size).length = size := by simp [be]
theorem be_take_succ (n size j : Nat) (h : j < size) : (be n size).take (j + 1) = (be n size).take j ++ [UInt8.ofNat (n / 256 ^ (size - 1 - j))] := by
  rw [List.take_succ_eq_append_getElem (by rw [be_length]; exact h)]
  simp [be]
theorem be_take_all (n size : Nat) : (be n size).take size = be n size := List.take_of_length_le (by rw [be_length]; exact Nat.le_refl _)
theorem be_succ (n s : Nat) : be n (s + 1) = UInt8.ofNat (n / 256 ^ s) :: be n s := by
  unfold be
  rw [List.range_succ_eq_map, List.map_cons, List.map_map]
  refine congr (congrArg _ (by simp)) (List.map_congr_left fun j hj => ?_)
  simp only [Function.comp_apply, Nat.succ_eq_add_one]
  rw [show s + 1 - 1 - (j + 1) = s - 1 - j from by omega]
theorem byte_toNat (n s : Nat) : (UInt8.ofNat (n / 256 ^ s)).toNat = n / 256 ^ s % 256 := by simp [UInt8.toNat_ofNat']
theorem split_at (a s : Nat) : a % 256 ^ (s + 1) = a % 256 ^ s + 256 ^ s * (a / 256 ^ s % 256) := Nat.mod_pow_succ

theorem digit_lt {x y r q d : Nat} (hr : r < d) (hq : q < d) : (r + d * x < q + d * y) ↔ (x < y ∨ (x = y ∧ r < q)) := by
  rcases Nat.lt_trichotomy x y with h | h | h
  · have : d * (x + 1) ≤ d * y := Nat.mul_le_mul_left d h
    rw [Nat.mul_add] at this
    constructor
    · intro _; exact .inl h
    · intro _; omega
  · subst h; omega
  · have : d * (y + 1) ≤ d * x := Nat.mul_le_mul_left d h
    rw [Nat.mul_add] at this
    constructor
    · intro _; omega
    · intro _; omega

theorem be_less_mod (a b : Nat) : ∀ s, Op.bytesLess (be a s) (be b s) = decide (a % 256 ^ s < b % 256 ^ s)
  | 0 => by simp [be, Op.bytesLess, Nat.mod_one]
  | s + 1 => by
    rw [be_succ, be_succ, Op.bytesLess, be_less_mod a b s, split_at a, split_at b, Bool.eq_iff_iff]
    have hp : 0 < 256 ^ s := Nat.pow_pos (by omega)
    simp only [Bool.or_eq_true, Bool.and_eq_true, decide_eq_true_eq, beq_iff_eq]
    rw [digit_lt (Nat.mod_lt _ hp) (Nat.mod_lt _ hp), UInt8.lt_iff_toNat_lt, ← UInt8.toNat_inj, byte_toNat, byte_toNat]
theorem be_inj_mod (a b : Nat) : ∀ s, be a s = be b s ↔ a % 256 ^ s = b % 256 ^ s
  | 0 => by simp [be, Nat.mod_one]
  | s + 1 => by
    rw [be_succ, be_succ, List.cons.injEq, be_inj_mod a b s, split_at a, split_at b, ← UInt8.toNat_inj, byte_toNat, byte_toNat]
    have hp : 0 < 256 ^ s := Nat.pow_pos (by omega)
    have hr := Nat.mod_lt a hp
    have hq := Nat.mod_lt b hp
    constructor
    · rintro ⟨h1, h2⟩; rw [h1, h2]
    · intro h
      have h1 := (digit_lt (x := a / 256 ^ s % 256) (y := b / 256 ^ s % 256) hr hq)
      have h2 := (digit_lt (x := b / 256 ^ s % 256) (y := a / 256 ^ s % 256) hq hr)
      rw [h] at h1 h2
      have h1' := mt h1.2 (Nat.lt_irrefl _)
      have h2' := mt h2.2 (Nat.lt_irrefl _)
      omega
theorem be_less (a b s : Nat) (ha : a < 256 ^ s) (hb : b < 256 ^ s) : Op.bytesLess (be a s) (be b s) = decide (a < b) := by
  rw [be_less_mod, Nat.mod_eq_of_lt ha, Nat.mod_eq_of_lt hb]
theorem be_inj (a b s : Nat) (ha : a < 256 ^ s) (hb : b < 256 ^ s) : be a s = be b s ↔ a = b := by
  rw [be_inj_mod, Nat.mod_eq_of_lt ha, Nat.mod_eq_of_lt hb]

end Go.Proofs.YtafgiljgefeefaaDoor
