/- Whether a key ends a group: what shape.Mark and the document's Mark do. -/
import Derived.Test.YtfnbmigldciblaaBase
namespace Go.Proofs.Ytfnbmigldciblaa
open Go.RowKit
set_option linter.unusedVariables false

/-- The sum of a key's bytes. -/
def fnv (bs : List UInt8) : Nat := bs.foldl (fun h b => ((h ^^^ b.toNat) * 16777619) % 4294967296) 2166136261
theorem fnv_from (bs : List UInt8) : ∀ h, h < 4294967296 → bs.foldl (fun h b => ((h ^^^ b.toNat) * 16777619) % 4294967296) h < 4294967296 := by
  induction bs with
  | nil => intro h hh; exact hh
  | cons b r ih => intro h _; exact ih _ (Nat.mod_lt _ (by omega))
theorem fnv_lt (bs : List UInt8) : fnv bs < 4294967296 := fnv_from bs _ (by omega)
theorem fnv_snoc (bs : List UInt8) (j : Nat) (h : j < bs.length) : fnv (bs.take (j + 1)) = ((fnv (bs.take j) ^^^ bs[j].toNat) * 16777619) % 4294967296 := by
  unfold fnv
  rw [List.take_succ_eq_append_getElem h, List.foldl_append, List.foldl_cons, List.foldl_nil]
/-- Whether a key ends a group at a level. -/
def MarkOf (bs : List UInt8) (level : Int) : Prop := 0 ≤ level ∧ level ≤ 15 ∧ fnv bs / 4 ^ level.toNat % 4 = 0

theorem xor_u32 (a b : Nat) (ha : a < 4294967296) (hb : b < 256) : bits BinOp.xor IntKind.u32 (a : Int) (b : Int) = ((a ^^^ b : Nat) : Int) := by
  have h : a ^^^ b < 2 ^ 32 := Nat.xor_lt_two_pow (by omega) (by omega)
  have h1 : bits BinOp.xor IntKind.u32 (a : Int) (b : Int) = IntKind.u32.wrap ((BitVec.ofInt 32 (a : Int) ^^^ BitVec.ofInt 32 (b : Int)).toNat : Int) := rfl
  have h2 : (BitVec.ofInt 32 (a : Int) ^^^ BitVec.ofInt 32 (b : Int)).toNat = a ^^^ b := by
    rw [BitVec.toNat_xor, BitVec.ofInt_natCast, BitVec.ofInt_natCast, BitVec.toNat_ofNat, BitVec.toNat_ofNat, Nat.mod_eq_of_lt (by omega), Nat.mod_eq_of_lt (by omega)]
  rw [h1, h2, IntWalk.u32_in _ (by omega)]
theorem xor_u64 (a b : Nat) (ha : a < 4294967296) (hb : b < 256) : bits BinOp.xor IntKind.u64 (a : Int) (b : Int) = ((a ^^^ b : Nat) : Int) := by
  have h : a ^^^ b < 2 ^ 32 := Nat.xor_lt_two_pow (by omega) (by omega)
  have h1 : bits BinOp.xor IntKind.u64 (a : Int) (b : Int) = IntKind.u64.wrap ((BitVec.ofInt 64 (a : Int) ^^^ BitVec.ofInt 64 (b : Int)).toNat : Int) := rfl
  have h2 : (BitVec.ofInt 64 (a : Int) ^^^ BitVec.ofInt 64 (b : Int)).toNat = a ^^^ b := by
    rw [BitVec.toNat_xor, BitVec.ofInt_natCast, BitVec.ofInt_natCast, BitVec.toNat_ofNat, BitVec.toNat_ofNat, Nat.mod_eq_of_lt (by omega), Nat.mod_eq_of_lt (by omega)]
  rw [h1, h2, IntWalk.u64_in _ (by omega)]
theorem and_three (a : Nat) (ha : a < 4294967296) : bits BinOp.and IntKind.u32 (a : Int) 3 = ((a % 4 : Nat) : Int) := by
  have h1 : bits BinOp.and IntKind.u32 (a : Int) 3 = IntKind.u32.wrap ((BitVec.ofInt 32 (a : Int) &&& BitVec.ofInt 32 3).toNat : Int) := rfl
  have h3 : (BitVec.ofInt 32 3).toNat = 2 ^ 2 - 1 := by decide
  have h2 : (BitVec.ofInt 32 (a : Int) &&& BitVec.ofInt 32 3).toNat = a % 4 := by
    rw [BitVec.toNat_and, h3, BitVec.ofInt_natCast, BitVec.toNat_ofNat, Nat.mod_eq_of_lt (by omega), Nat.and_two_pow_sub_one_eq_mod]
  rw [h1, h2, IntWalk.u32_in _ (by omega)]

set_option maxRecDepth 100000 in
set_option maxHeartbeats 1600000 in
theorem mark_out (x : Value) (level : Int) (w : World) (h : level < 0 ∨ (0 ≤ level ∧ 15 < level)) :
    Calls Try.prog 9 #[x, .int .i64 level] w fun e w' => e = .returned (.bool false) ∧ w' = w := by
  rcases h with h | ⟨h1, h2⟩
  all_goals
    go_enter Try.func9, Try.ntmps9
    go_wp2
    go_ret
    exact ⟨rfl, rfl⟩

set_option maxRecDepth 100000 in
set_option maxHeartbeats 3200000 in
theorem mark_in (ao : Option Addr) (cap level : Nat) (bs : List UInt8) (w : World) (hx : Bytes w (.slice ao bs.length cap) bs) (hm : bs.length ≤ 1099511627776) (hl : level ≤ 15) :
    Calls Try.prog 9 #[.slice ao bs.length cap, .int .i64 level] w fun e w' => e = .returned (.bool (decide (fnv bs / 4 ^ level % 4 = 0))) ∧ w' = w := by
  have HX := Lib.hid hx
  clear hx
  obtain ⟨q, hq⟩ : ∃ q, decide (fnv bs / 4 ^ level % 4 = 0) = q := ⟨_, rfl⟩
  rw [hq]
  have HQ := Lib.hid hq
  clear hq
  go_enter Try.func9, Try.ntmps9
  go_wp2
  go_loop [5, 7, 16] (fun h _ i => ∃ j : Nat, j ≤ bs.length ∧ i = .int .i64 j ∧ ∃ f : Nat, f = fnv (bs.take j) ∧ h = .int .u32 f) (fun _ _ i => bs.length - (intOf i).toNat)
  case atStart => exact ⟨0, by omega, rfl, 2166136261, by simp only [List.take_zero, fnv, List.foldl_nil], rfl⟩
  case round =>
    obtain ⟨j, hj, rfl, f, hf, rfl⟩ := hrel
    have hfl : f < 4294967296 := hf ▸ fnv_lt _
    by_cases hlt : j < bs.length
    · rcases HX.out with ⟨a, c, he, hc⟩ | ⟨c, he, h0⟩
      · simp only [Value.slice.injEq] at he
        obtain ⟨rfl, _, rfl⟩ := he
        have hcj := hc j _ (u8s_get bs j hlt)
        have hsn := fnv_snoc bs j hlt
        have hb : bs.getD j 0 = bs[j] := by simp [List.getD, hlt]
        rw [hb] at hcj
        have hbl : bs[j].toNat < 256 := UInt8.toNat_lt _
        generalize bs[j].toNat = b at *
        have hxor := xor_u32 f b hfl hbl
        have HF := Lib.hid hf
        have HN := Lib.hid hsn
        have hw : IntKind.u32.wrap (b : Int) = (b : Int) := IntWalk.u32_in _ (by omega)
        clear hc hsn hf hb
        go_wp2
        go_round
        case rel => exact ⟨j + 1, by omega, by go_num, ((f ^^^ b) * 16777619) % 4294967296, by rw [HN.out, ← HF.out], congrArg (Value.int .u32) (by simp)⟩
        case measure => simp [intOf]; omega
      · subst h0; simp at hlt
    · have hjn : bs.take j = bs := List.take_of_length_le (by omega)
      rw [hjn] at hf
      have HF := Lib.hid hf
      clear hjn hf
      have s1 : IntKind.i64.wrap (2 * (level : Int)) = 2 * (level : Int) := IntWalk.i64_in _ (by omega)
      go_wp2
      go_ret
      refine ⟨congrArg (fun b => Ending.returned (Value.bool b)) (show (bits BinOp.and IntKind.u32 ((f : Int) / 2 ^ (2 * level)) 3 == 0) = q from ?_), rfl⟩
      rw [← HQ.out, ← HF.out, show ((f : Int) / 2 ^ (2 * level)) = ((f / 4 ^ level : Nat) : Int) from by rw [show (4 : Nat) = 2 ^ 2 from rfl, ← Nat.pow_mul]; simp, and_three _ (by have := Nat.div_le_self f (4 ^ level); omega)]
      rw [Bool.eq_iff_iff, beq_iff_eq, decide_eq_true_iff]; omega

theorem mark_any (ao : Option Addr) (cap : Nat) (level : Int) (bs : List UInt8) (w : World) (hx : Bytes w (.slice ao bs.length cap) bs) (hm : bs.length ≤ 1099511627776) :
    Calls Try.prog 9 #[.slice ao bs.length cap, .int .i64 level] w fun e w' => ∃ b, e = .returned (.bool b) ∧ w' = w ∧ (b = true ↔ MarkOf bs level) := by
  by_cases h0 : 0 ≤ level
  case neg => exact (mark_out _ level w (.inl (by omega))).mono fun e w' h => ⟨false, h.1, h.2, ⟨fun e => (by cases e), fun e => absurd e.1 h0⟩⟩
  by_cases h1 : level ≤ 15
  case neg => exact (mark_out _ level w (.inr ⟨h0, by omega⟩)).mono fun e w' h => ⟨false, h.1, h.2, ⟨fun e => (by cases e), fun e => absurd e.2.1 h1⟩⟩
  obtain ⟨l, rfl⟩ := Int.eq_ofNat_of_zero_le h0
  exact (mark_in ao cap l bs w hx hm (by omega)).mono fun e w' h => ⟨_, h.1, h.2, by rw [decide_eq_true_iff]; exact ⟨fun e => ⟨h0, h1, e⟩, fun e => e.2.2⟩⟩

set_option maxRecDepth 100000 in
set_option maxHeartbeats 1600000 in
theorem rmark_out (x : Value) (level : Int) (w : World) (h : level < 0 ∨ (0 ≤ level ∧ 15 < level)) :
    Calls Try.prog 10 #[x, .int .i64 level] w fun e w' => e = .returned (.bool false) ∧ w' = w := by
  rcases h with h | ⟨h1, h2⟩
  all_goals
    go_enter Try.func10, Try.ntmps10
    go_wp2
    go_ret
    exact ⟨rfl, rfl⟩

set_option maxRecDepth 100000 in
set_option maxHeartbeats 3200000 in
theorem rmark_in (ao : Option Addr) (cap level : Nat) (bs : List UInt8) (w : World) (hx : Bytes w (.slice ao bs.length cap) bs) (hm : bs.length ≤ 1099511627776) (hl : level ≤ 15) :
    Calls Try.prog 10 #[.slice ao bs.length cap, .int .i64 level] w fun e w' => e = .returned (.bool (decide (fnv bs / 4 ^ level % 4 = 0))) ∧ w' = w := by
  have HX := Lib.hid hx
  clear hx
  obtain ⟨q, hq⟩ : ∃ q, decide (fnv bs / 4 ^ level % 4 = 0) = q := ⟨_, rfl⟩
  rw [hq]
  have HQ := Lib.hid hq
  clear hq
  go_enter Try.func10, Try.ntmps10
  go_wp2
  go_loop [5, 6] (fun h i => ∃ j : Nat, j ≤ bs.length ∧ i = .int .i64 j ∧ ∃ f : Nat, f = fnv (bs.take j) ∧ h = .int .u64 f) (fun _ i => bs.length - (intOf i).toNat)
  case atStart => exact ⟨0, by omega, rfl, 2166136261, by simp only [List.take_zero, fnv, List.foldl_nil], rfl⟩
  case round =>
    obtain ⟨j, hj, rfl, f, hf, rfl⟩ := hrel
    have hfl : f < 4294967296 := hf ▸ fnv_lt _
    by_cases hlt : j < bs.length
    · rcases HX.out with ⟨a, c, he, hc⟩ | ⟨c, he, h0⟩
      · simp only [Value.slice.injEq] at he
        obtain ⟨rfl, _, rfl⟩ := he
        have hcj := hc j _ (u8s_get bs j hlt)
        have hsn := fnv_snoc bs j hlt
        have hb : bs.getD j 0 = bs[j] := by simp [List.getD, hlt]
        rw [hb] at hcj
        have hbl : bs[j].toNat < 256 := UInt8.toNat_lt _
        generalize bs[j].toNat = b at *
        have hxor := xor_u64 f b hfl hbl
        have hxl : f ^^^ b < 2 ^ 32 := Nat.xor_lt_two_pow (by omega) (by omega)
        generalize hxx : f ^^^ b = x at *
        have HF := Lib.hid hf
        have HN := Lib.hid hsn
        have HXX := Lib.hid hxx
        have hw : IntKind.u64.wrap (b : Int) = (b : Int) := IntWalk.u64_in _ (by omega)
        have hw2 : IntKind.u64.wrap ((x : Int) * 16777619) = (x : Int) * 16777619 := IntWalk.u64_in _ (by omega)
        clear hc hsn hf hb hxx
        go_wp2
        go_round
        case rel => exact ⟨j + 1, by omega, by go_num, (x * 16777619) % 4294967296, by rw [HN.out, ← HF.out, HXX.out], congrArg (Value.int .u64) (by simp)⟩
        case measure => simp [intOf]; omega
      · subst h0; simp at hlt
    · have hjn : bs.take j = bs := List.take_of_length_le (by omega)
      rw [hjn] at hf
      have HF := Lib.hid hf
      clear hjn hf
      go_wp2
      go_loop [5, 7] (fun h i => ∃ k : Nat, k ≤ level ∧ i = .int .i64 k ∧ ∃ g : Nat, g = f / 4 ^ k ∧ h = .int .u64 g) (fun _ i => level - (intOf i).toNat)
      case atStart => exact ⟨0, by omega, rfl, f, by simp, rfl⟩
      case round =>
        obtain ⟨k, hk, rfl, g, hg, rfl⟩ := hrel
        have hgl : g ≤ f := hg ▸ Nat.div_le_self _ _
        by_cases hlt2 : k < level
        · have HG := Lib.hid hg
          clear hg
          go_wp2
          go_round
          case rel => exact ⟨k + 1, by omega, by go_num, g / 4, by rw [HG.out, Nat.pow_succ, Nat.div_div_eq_div_mul], congrArg (Value.int .u64) (by simp)⟩
          case measure => simp [intOf]; omega
        · have hkl : k = level := by omega
          subst hkl
          have HG := Lib.hid hg
          clear hg
          go_wp2
          go_ret
          refine ⟨congrArg (fun b => Ending.returned (Value.bool b)) (show (((g : Int) % 4) == 0) = q from ?_), rfl⟩
          rw [← HQ.out, ← HF.out, ← HG.out, Bool.eq_iff_iff, beq_iff_eq, decide_eq_true_iff]; omega

theorem rmark_any (ao : Option Addr) (cap : Nat) (level : Int) (bs : List UInt8) (w : World) (hx : Bytes w (.slice ao bs.length cap) bs) (hm : bs.length ≤ 1099511627776) :
    Calls Try.prog 10 #[.slice ao bs.length cap, .int .i64 level] w fun e w' => ∃ b, e = .returned (.bool b) ∧ w' = w ∧ (b = true ↔ MarkOf bs level) := by
  by_cases h0 : 0 ≤ level
  case neg => exact (rmark_out _ level w (.inl (by omega))).mono fun e w' h => ⟨false, h.1, h.2, ⟨fun e => (by cases e), fun e => absurd e.1 h0⟩⟩
  by_cases h1 : level ≤ 15
  case neg => exact (rmark_out _ level w (.inr ⟨h0, by omega⟩)).mono fun e w' h => ⟨false, h.1, h.2, ⟨fun e => (by cases e), fun e => absurd e.2.1 h1⟩⟩
  obtain ⟨l, rfl⟩ := Int.eq_ofNat_of_zero_le h0
  exact (rmark_in ao cap l bs w hx hm (by omega)).mono fun e w' h => ⟨_, h.1, h.2, by rw [decide_eq_true_iff]; exact ⟨fun e => ⟨h0, h1, e⟩, fun e => e.2.2⟩⟩

end Go.Proofs.Ytfnbmigldciblaa
