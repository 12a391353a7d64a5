/- The document's own Text. -/
import Derived.Test.YtdeajjppmgfemaaRef02
namespace Go.Proofs.Ytdeajjppmgfemaa
open Go.RowKit
set_option linter.unusedVariables false

set_option maxRecDepth 100000 in
set_option maxHeartbeats 1600000 in
theorem ref_text_ok (x : Value) (more : List UInt8) (w : World) (hx : Bytes w x more) (hm : more.length ≤ 65535) :
    Calls Try.prog 23 #[x] w fun e w' => ∃ v, e = .returned (.tuple #[v, .int .i64 0]) ∧ w'.ownsRow w.heap.size 5 1 v (2 + more.length) (u8s (be more.length 2 ++ more)) ∧ Same w w' ∧ v ≠ .slice none 0 0 := by
  obtain ⟨i0, hi0, hz0, hz1, hz2⟩ := info_parts Try.info5
  have hm2 : (more.length : Int) ≤ 65535 := by omega
  have HX := Lib.hid hx
  obtain ⟨ao, c, rfl⟩ := hx.form
  clear hx
  go_enter Try.func23, Try.ntmps23
  go_wp2_with fail
  ((with_reducible refine (ref_uint_any' more.length 2 _ 2 (by omega) (by omega) _ (by omega) (by omega) (by omega)).mono ?_); rintro e w1 ⟨hk, hp⟩)
  rcases hp with ⟨_, g, cap, rfl, hown⟩ | ⟨h, _⟩
  · have hx1 := HX.out.same hk
    have HK := Lib.hid hk
    have HX1 := Lib.hid hx1
    have HO := Lib.hid hown
    have hz := hk.size
    clear hk hx1 hown
    cases ao with
    | none =>
      have hnil : more = [] := by
        rcases HX1.out with ⟨a, c', h, _⟩ | ⟨c', h, h2⟩
        · simp at h
        · exact h2
      subst hnil
      have hn : 2 ≤ cap := by
        rcases HO.out.2 with ⟨h, _⟩ | ⟨g', cap', cur, h, _, _, h3, _⟩
        · simp at h
        · simp only [Value.slice.injEq] at h; omega
      go_wp2_with (at_builtin; refine wpList_append_run (by rfl) _ _ 29 (by rfl) _ _ _ _ (by rfl) (by rfl) (run_append_zero _ _ _ 5 i0 Try.underlying29 hi0 _ _ _ _ _ hn) ?_)
      go_ret2
      exact ⟨_, rfl, by simpa using HO.out, HK.out, by simp⟩
    | some a =>
      obtain ⟨hc1, hc2⟩ : (∀ j u, (u8s more)[j]? = some u → w1.cell? (a.add j) = some u) ∧ True := by
        rcases HX1.out with ⟨a', c', h, hc⟩ | ⟨c', h, _⟩
        · simp only [Value.slice.injEq, Option.some.injEq] at h
          obtain ⟨rfl, _, _⟩ := h
          exact ⟨hc, trivial⟩
        · simp at h
      have HC := Lib.hid hc1
      clear hc1 hc2
      go_wp2_with (at_builtin; refine wpList_append_own _ (by rfl) _ _ _ (by rfl) w.heap.size 5 i0 _ 1 1 Try.underlying29 hi0 hz0 hz1 hz2 rfl (by omega) _ 2 (u8s (be more.length 2)) (by rfl) HO.out a more.length c (u8s more) (by rfl) (by rw [u8s_length, Nat.mul_one]) HC.out (u8s_cell more) (by unfold maxLen; omega) (by omega) hz ?_)
      intro v' w2 hown2 hgrow hnil
      have HO2 := Lib.hid hown2
      have HG := Lib.hid hgrow
      have HN := Lib.hid hnil
      clear hown2 hgrow hnil
      go_wp2
      go_ret2
      refine ⟨v', rfl, ?_, HK.out.grown HG.out (fun k e hk => ?_), fun e => ?_⟩
      · rw [u8s_append]; exact HO2.out
      · simp only [Value.ownBlock, Option.some.injEq] at e
        have := (HO.out.lt k (by rw [← e]; rfl)).1
        omega
      · have := HN.out
        simp [e] at this
  · exact absurd (by omega) h

set_option maxRecDepth 100000 in
set_option maxHeartbeats 1600000 in
theorem ref_text_long (ao : Option Addr) (n c : Nat) (w : World) (h : 65535 < n) (hn : n < 9223372036854775807) :
    Calls Try.prog 23 #[.slice ao n c] w fun e w' => ∃ g, e = .returned (.tuple #[.slice (some ⟨g, 0, none⟩) 0 0, .int .i64 23]) ∧ Same w w' ∧ w.heap.size ≤ g := by
  have h0 : (0 : Int) ≤ (n : Int) := by omega
  have HN := Lib.hid hn
  have hn2 : (n : Int) ≤ 9223372036854775807 := by omega
  clear hn
  go_enter Try.func23, Try.ntmps23
  go_wp2_with fail
  ((with_reducible refine (ref_uint_any' n 2 _ 2 (by omega) (by omega) _ (by have := HN.out; omega) (by omega) (by omega)).mono ?_); rintro e w1 ⟨hk, hp⟩)
  rcases hp with ⟨h, _⟩ | ⟨_, g, rfl, hg⟩
  · exact absurd h (by omega)
  · have HK := Lib.hid hk
    have hz := hk.size
    clear hk
    go_wp2
    go_ret2
    exact ⟨_, rfl, HK.out.alloc _, hz⟩

end Go.Proofs.Ytdeajjppmgfemaa
