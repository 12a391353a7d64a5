/- What the document's own answers of layer 2 do: Uint, Text. -/
import Derived.Test.YtomjgdlekfppkaaPack2
import Derived.Test.YtomjgdlekfppkaaRow
namespace Go.Proofs.Ytomjgdlekfppkaa
open Go.RowKit
set_option linter.unusedVariables false

set_option maxRecDepth 100000 in
set_option maxHeartbeats 800000 in
theorem ref_uint_size (n size : Int) (h : size < 1 ∨ 8 < size) (w : World) :
    Calls Try.prog 11 #[.int .u64 n, .int .i64 size] w fun e w' => ∃ g, e = .returned (.tuple #[.slice (some ⟨g, 0, none⟩) 0 0, .int .i64 1]) ∧ Same w w' ∧ w.heap.size ≤ g := by
  have hs : (size < 1) ∨ (¬ size < 1 ∧ 8 < size) := by omega
  rcases hs with hs | ⟨hs, hs2⟩
  all_goals
    go_enter Try.func11, Try.ntmps11
    go_wp2
    go_ret2
    exact ⟨_, rfl, (Keeps.refl _ _).alloc _, Nat.le_refl _⟩

/-- How the loop ends. -/
def UintPost (w : World) (n size : Nat) (e : Ending) (w' : World) : Prop := Same w w' ∧
  ((n < 256 ^ size ∧ ∃ g cap, e = .returned (.tuple #[.slice (some ⟨g, 0, none⟩) size cap, .int .i64 0]) ∧ w'.ownsRow w.heap.size 5 1 (.slice (some ⟨g, 0, none⟩) size cap) size (u8s (be n size))) ∨
   (¬ n < 256 ^ size ∧ ∃ g, e = .returned (.tuple #[.slice (some ⟨g, 0, none⟩) 0 0, .int .i64 1]) ∧ w.heap.size ≤ g))

set_option maxRecDepth 100000 in
set_option maxHeartbeats 1600000 in
theorem ref_uint_any (n size : Nat) (h1 : 1 ≤ size) (h8 : size ≤ 8) (w : World) (hn : n < 18446744073709551616) :
    Calls Try.prog 11 #[.int .u64 n, .int .i64 size] w (UintPost w n size) := by
  obtain ⟨i0, hi0, hz0, hz1, hz2⟩ := info_parts Try.info5
  have q1 : ¬ (size : Int) < 1 := by omega
  have q8 : ¬ (8 : Int) < (size : Int) := by omega
  have HN := Lib.hid hn
  clear hn
  go_enter Try.func11, Try.ntmps11
  go_wp2_with (at_make; refine wpList_make_full _ rfl _ _ 26 rfl w.heap.size 5 i0 _ 1 Try.underlying26 hi0 hz0 hz1 _ _ _ _ size (by rfl) (by rfl) rfl rfl (by rw [hz2]; omega) (by unfold maxLen; omega) (Nat.le_refl _) ?_)
  intro w1 hown hgrow
  rw [show (madeCells #[Value.int .u8 0] size).toList = u8s (List.replicate size 0) from made_u8 size, ← back_zero n size] at hown
  have hk1 : Same w w1 := (Keeps.refl _ _).grown hgrow (fun k e _ => by simp at e)
  have HO := Lib.hid hown
  have HK := Lib.hid hk1
  clear hown hgrow hk1
  go_wp2
  go_loopw [7, 8] (fun x i wr => ∃ k : Nat, k ≤ size ∧ i = .int .i64 k ∧ (∃ X : Nat, X = n / 256 ^ k ∧ x = .int .u64 X) ∧ wr.ownsRow w.heap.size 5 1 (.slice (some ⟨w.heap.size, 0, none⟩) size size) size (u8s (back n size k)) ∧ Same w wr) (fun _ i _ => size - (intOf i).toNat)
  case atStart => exact ⟨0, by omega, rfl, ⟨n, by simp, rfl⟩, HO.out, HK.out⟩
  case round =>
    obtain ⟨k, hk, rfl, ⟨X, hX, rfl⟩, hown, hsame⟩ := hrel
    have HX := Lib.hid hX
    have HO1 := Lib.hid hown
    have HS1 := Lib.hid hsame
    by_cases hlt : k < size
    · obtain ⟨m, hm⟩ : ∃ m : Nat, (size : Int) - 1 - (k : Int) = (m : Int) := Int.eq_ofNat_of_zero_le (by omega)
      have hm2 : (m : Int) < (size : Int) := by omega
      have hm3 : m < size := by omega
      have hm4 : m = size - 1 - k := by omega
      obtain ⟨hc, hf⟩ := own_cell hown m hm3
      have HM := Lib.hid hm4
      have hX0 : (X : Int) < 18446744073709551616 := by
        have h5 : X ≤ n := by rw [hX]; exact Nat.div_le_self _ _
        have := HN.out
        omega
      clear hX hown hsame hm4
      go_wp2
      go_roundw
      case rel =>
        refine ⟨k + 1, by omega, by go_num, ⟨X / 256, ?_, by simp⟩, ?_, HS1.out.setCell _ _ (.inl (Nat.le_refl _))⟩
        · rw [HX.out, Nat.div_div_eq_div_mul, Nat.pow_succ]
        · rw [← back_succ n size k hlt, ← HM.out]
          refine own_set8 _ HO1.out hm3 ?_
          have h6 : ((UInt8.ofNat (n / 256 ^ k)).toNat : Int) = (X : Int) % 256 := by
            rw [byte_toNat, ← HX.out]; omega
          rw [h6]
      case measure => simp [intOf]; omega
    · have hks : k = size := by omega
      have HKS := Lib.hid hks
      have hXs : X = n / 256 ^ size := by rw [hX, hks]
      have HXS := Lib.hid hXs
      clear hX hown hsame hXs hks
      by_cases hX0 : (0 : Int) < (X : Int)
      · go_wp2
        go_ret2
        have hng : ¬ n < 256 ^ size := by
          intro h
          have := HXS.out
          rw [Nat.div_eq_of_lt h] at this
          omega
        exact ⟨HS1.out.alloc _, .inr ⟨hng, _, rfl, HS1.out.size⟩⟩
      · go_wp2
        go_ret2
        have hok : n < 256 ^ size := by
          have h7 : n / 256 ^ size = 0 := by have := HXS.out; omega
          have hp : 0 < 256 ^ size := Nat.pow_pos (by omega)
          rcases Nat.lt_or_ge n (256 ^ size) with h | h
          · exact h
          · have := Nat.div_pos h hp; omega
        refine ⟨HS1.out, .inl ⟨hok, _, _, rfl, ?_⟩⟩
        have h8 := HO1.out
        rw [HKS.out, back_all] at h8
        exact h8

theorem ref_uint_any' (n size : Nat) (N S : Int) (h1 : 1 ≤ size) (h8 : size ≤ 8) (w : World) (hn : n < 18446744073709551616) (hN : N = (n : Int)) (hS : S = (size : Int)) :
    Calls Try.prog 11 #[.int .u64 N, .int .i64 S] w (UintPost w n size) := by
  subst hN; subst hS; exact ref_uint_any n size h1 h8 w hn

set_option maxRecDepth 100000 in
set_option maxHeartbeats 1600000 in
theorem ref_text_ok (x : Value) (more : List UInt8) (w : World) (hx : Bytes w x more) (hm : more.length ≤ 65535) :
    Calls Try.prog 13 #[x] w fun e w' => ∃ v, e = .returned (.tuple #[v, .int .i64 0]) ∧ w'.ownsRow w.heap.size 5 1 v (2 + more.length) (u8s (be more.length 2 ++ more)) ∧ Same w w' ∧ v ≠ .slice none 0 0 := by
  obtain ⟨i0, hi0, hz0, hz1, hz2⟩ := info_parts Try.info5
  have hm2 : (more.length : Int) ≤ 65535 := by omega
  have HX := Lib.hid hx
  obtain ⟨ao, c, rfl⟩ := hx.form
  clear hx
  go_enter Try.func13, Try.ntmps13
  go_wp2_with fail
  ((with_reducible refine (ref_uint_any' more.length 2 _ 2 (by omega) (by omega) _ (by omega) (by omega) (by omega)).mono ?_); rintro e w1 ⟨hk, hp⟩)
  rcases hp with ⟨_, g, cap, rfl, hown⟩ | ⟨h, _⟩
  · have hx1 := HX.out.same hk
    have HK := Lib.hid hk
    have HX1 := Lib.hid hx1
    have HO := Lib.hid hown
    have hz := hk.size
    clear hk hx1 hown
    cases ao with
    | none =>
      have hnil : more = [] := by
        rcases HX1.out with ⟨a, c', h, _⟩ | ⟨c', h, h2⟩
        · simp at h
        · exact h2
      subst hnil
      have hn : 2 ≤ cap := by
        rcases HO.out.2 with ⟨h, _⟩ | ⟨g', cap', cur, h, _, _, h3, _⟩
        · simp at h
        · simp only [Value.slice.injEq] at h; omega
      go_wp2_with (at_builtin; refine wpList_append_run (by rfl) _ _ 26 (by rfl) _ _ _ _ (by rfl) (by rfl) (run_append_zero _ _ _ 5 i0 Try.underlying26 hi0 _ _ _ _ _ hn) ?_)
      go_ret2
      exact ⟨_, rfl, by simpa using HO.out, HK.out, by simp⟩
    | some a =>
      obtain ⟨hc1, hc2⟩ : (∀ j u, (u8s more)[j]? = some u → w1.cell? (a.add j) = some u) ∧ True := by
        rcases HX1.out with ⟨a', c', h, hc⟩ | ⟨c', h, _⟩
        · simp only [Value.slice.injEq, Option.some.injEq] at h
          obtain ⟨rfl, _, _⟩ := h
          exact ⟨hc, trivial⟩
        · simp at h
      have HC := Lib.hid hc1
      clear hc1 hc2
      go_wp2_with (at_builtin; refine wpList_append_own _ (by rfl) _ _ _ (by rfl) w.heap.size 5 i0 _ 1 1 Try.underlying26 hi0 hz0 hz1 hz2 rfl (by omega) _ 2 (u8s (be more.length 2)) (by rfl) HO.out a more.length c (u8s more) (by rfl) (by rw [u8s_length, Nat.mul_one]) HC.out (u8s_cell more) (by unfold maxLen; omega) (by omega) hz ?_)
      intro v' w2 hown2 hgrow hnil
      have HO2 := Lib.hid hown2
      have HG := Lib.hid hgrow
      have HN := Lib.hid hnil
      clear hown2 hgrow hnil
      go_wp2
      go_ret2
      refine ⟨v', rfl, ?_, HK.out.grown HG.out (fun k e hk => ?_), fun e => ?_⟩
      · rw [u8s_append]; exact HO2.out
      · simp only [Value.ownBlock, Option.some.injEq] at e
        have := (HO.out.lt k (by rw [← e]; rfl)).1
        omega
      · have := HN.out
        simp [e] at this
  · exact absurd (by omega) h

set_option maxRecDepth 100000 in
set_option maxHeartbeats 1600000 in
theorem ref_text_long (ao : Option Addr) (n c : Nat) (w : World) (h : 65535 < n) (hn : n < 9223372036854775807) :
    Calls Try.prog 13 #[.slice ao n c] w fun e w' => ∃ g, e = .returned (.tuple #[.slice (some ⟨g, 0, none⟩) 0 0, .int .i64 23]) ∧ Same w w' ∧ w.heap.size ≤ g := by
  have h0 : (0 : Int) ≤ (n : Int) := by omega
  have HN := Lib.hid hn
  have hn2 : (n : Int) ≤ 9223372036854775807 := by omega
  clear hn
  go_enter Try.func13, Try.ntmps13
  go_wp2_with fail
  ((with_reducible refine (ref_uint_any' n 2 _ 2 (by omega) (by omega) _ (by have := HN.out; omega) (by omega) (by omega)).mono ?_); rintro e w1 ⟨hk, hp⟩)
  rcases hp with ⟨h, _⟩ | ⟨_, g, rfl, hg⟩
  · exact absurd h (by omega)
  · have HK := Lib.hid hk
    have hz := hk.size
    clear hk
    go_wp2
    go_ret2
    exact ⟨_, rfl, HK.out.alloc _, hz⟩

end Go.Proofs.Ytomjgdlekfppkaa
