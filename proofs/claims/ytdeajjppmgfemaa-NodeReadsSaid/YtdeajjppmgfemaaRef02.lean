/- What the document's own answers of layer 2 do: Uint, Text. -/
import Derived.Test.YtdeajjppmgfemaaPack3
import Derived.Test.YtdeajjppmgfemaaRow
namespace Go.Proofs.Ytdeajjppmgfemaa
open Go.RowKit
set_option linter.unusedVariables false

set_option maxRecDepth 100000 in
set_option maxHeartbeats 800000 in
theorem ref_uint_size (n size : Int) (h : size < 1 ∨ 8 < size) (w : World) :
    Calls Try.prog 36 #[.int .u64 n, .int .i64 size] w fun e w' => ∃ g, e = .returned (.tuple #[.slice (some ⟨g, 0, none⟩) 0 0, .int .i64 1]) ∧ Same w w' ∧ w.heap.size ≤ g := by
  have hs : (size < 1) ∨ (¬ size < 1 ∧ 8 < size) := by omega
  rcases hs with hs | ⟨hs, hs2⟩
  all_goals
    go_enter Try.func36, Try.ntmps36
    go_wp2
    go_ret2
    exact ⟨_, rfl, (Keeps.refl _ _).alloc _, Nat.le_refl _⟩

/-- How the loop ends. -/
def UintPost (w : World) (n size : Nat) (e : Ending) (w' : World) : Prop := Same w w' ∧
  ((n < 256 ^ size ∧ ∃ g cap, e = .returned (.tuple #[.slice (some ⟨g, 0, none⟩) size cap, .int .i64 0]) ∧ w'.ownsRow w.heap.size 5 1 (.slice (some ⟨g, 0, none⟩) size cap) size (u8s (be n size))) ∨
   (¬ n < 256 ^ size ∧ ∃ g, e = .returned (.tuple #[.slice (some ⟨g, 0, none⟩) 0 0, .int .i64 1]) ∧ w.heap.size ≤ g))

set_option maxRecDepth 100000 in
set_option maxHeartbeats 1600000 in
theorem ref_uint_any (n size : Nat) (h1 : 1 ≤ size) (h8 : size ≤ 8) (w : World) (hn : n < 18446744073709551616) :
    Calls Try.prog 36 #[.int .u64 n, .int .i64 size] w (UintPost w n size) := by
  obtain ⟨i0, hi0, hz0, hz1, hz2⟩ := info_parts Try.info5
  have q1 : ¬ (size : Int) < 1 := by omega
  have q8 : ¬ (8 : Int) < (size : Int) := by omega
  have HN := Lib.hid hn
  clear hn
  go_enter Try.func36, Try.ntmps36
  go_wp2_with (at_make; refine wpList_make_full _ rfl _ _ 29 rfl w.heap.size 5 i0 _ 1 Try.underlying29 hi0 hz0 hz1 _ _ _ _ size (by rfl) (by rfl) rfl rfl (by rw [hz2]; omega) (by unfold maxLen; omega) (Nat.le_refl _) ?_)
  intro w1 hown hgrow
  rw [show (madeCells #[Value.int .u8 0] size).toList = u8s (List.replicate size 0) from made_u8 size, ← back_zero n size] at hown
  have hk1 : Same w w1 := (Keeps.refl _ _).grown hgrow (fun k e _ => by simp at e)
  have HO := Lib.hid hown
  have HK := Lib.hid hk1
  clear hown hgrow hk1
  go_wp2
  go_loopw [7, 8] (fun x i wr => ∃ k : Nat, k ≤ size ∧ i = .int .i64 k ∧ (∃ X : Nat, X = n / 256 ^ k ∧ x = .int .u64 X) ∧ wr.ownsRow w.heap.size 5 1 (.slice (some ⟨w.heap.size, 0, none⟩) size size) size (u8s (back n size k)) ∧ Same w wr) (fun _ i _ => size - (intOf i).toNat)
  case atStart => exact ⟨0, by omega, rfl, ⟨n, by simp, rfl⟩, HO.out, HK.out⟩
  case round =>
    obtain ⟨k, hk, rfl, ⟨X, hX, rfl⟩, hown, hsame⟩ := hrel
    have HX := Lib.hid hX
    have HO1 := Lib.hid hown
    have HS1 := Lib.hid hsame
    by_cases hlt : k < size
    · obtain ⟨m, hm⟩ : ∃ m : Nat, (size : Int) - 1 - (k : Int) = (m : Int) := Int.eq_ofNat_of_zero_le (by omega)
      have hm2 : (m : Int) < (size : Int) := by omega
      have hm3 : m < size := by omega
      have hm4 : m = size - 1 - k := by omega
      obtain ⟨hc, hf⟩ := own_cell hown m hm3
      have HM := Lib.hid hm4
      have hX0 : (X : Int) < 18446744073709551616 := by
        have h5 : X ≤ n := by rw [hX]; exact Nat.div_le_self _ _
        have := HN.out
        omega
      clear hX hown hsame hm4
      go_wp2
      go_roundw
      case rel =>
        refine ⟨k + 1, by omega, by go_num, ⟨X / 256, ?_, by simp⟩, ?_, HS1.out.setCell _ _ (.inl (Nat.le_refl _))⟩
        · rw [HX.out, Nat.div_div_eq_div_mul, Nat.pow_succ]
        · rw [← back_succ n size k hlt, ← HM.out]
          refine own_set8 _ HO1.out hm3 ?_
          have h6 : ((UInt8.ofNat (n / 256 ^ k)).toNat : Int) = (X : Int) % 256 := by
            rw [byte_toNat, ← HX.out]; omega
          rw [h6]
      case measure => simp [intOf]; omega
    · have hks : k = size := by omega
      have HKS := Lib.hid hks
      have hXs : X = n / 256 ^ size := by rw [hX, hks]
      have HXS := Lib.hid hXs
      clear hX hown hsame hXs hks
      by_cases hX0 : (0 : Int) < (X : Int)
      · go_wp2
        go_ret2
        have hng : ¬ n < 256 ^ size := by
          intro h
          have := HXS.out
          rw [Nat.div_eq_of_lt h] at this
          omega
        exact ⟨HS1.out.alloc _, .inr ⟨hng, _, rfl, HS1.out.size⟩⟩
      · go_wp2
        go_ret2
        have hok : n < 256 ^ size := by
          have h7 : n / 256 ^ size = 0 := by have := HXS.out; omega
          have hp : 0 < 256 ^ size := Nat.pow_pos (by omega)
          rcases Nat.lt_or_ge n (256 ^ size) with h | h
          · exact h
          · have := Nat.div_pos h hp; omega
        refine ⟨HS1.out, .inl ⟨hok, _, _, rfl, ?_⟩⟩
        have h8 := HO1.out
        rw [HKS.out, back_all] at h8
        exact h8

theorem ref_uint_any' (n size : Nat) (N S : Int) (h1 : 1 ≤ size) (h8 : size ≤ 8) (w : World) (hn : n < 18446744073709551616) (hN : N = (n : Int)) (hS : S = (size : Int)) :
    Calls Try.prog 36 #[.int .u64 N, .int .i64 S] w (UintPost w n size) := by
  subst hN; subst hS; exact ref_uint_any n size h1 h8 w hn

end Go.Proofs.Ytdeajjppmgfemaa
