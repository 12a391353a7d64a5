/- What slices.Clone does of bytes (where pack is not there). -/
import Derived.Test.YtoimhniijeafaaaBase
namespace Go.Proofs.Ytoimhniijeafaaa
open Go.RowKit
set_option linter.unusedVariables false

theorem Try.infoB8 : (Try.prog.info? 5).map (fun i => (i.zero, i.size, i.bytes)) = some (some (.int .u8 0), 1, 1) := by kernel_rfl

set_option maxRecDepth 100000 in
set_option maxHeartbeats 800000 in
theorem clone_nil (c : Nat) (w : World) :
    Calls Try.prog 34 #[.slice none 0 c] w fun e w' => e = .returned (.slice none 0 0) ∧ w = w' := by
  have q22 : ∀ (w : World) (a : Option Addr) (n c n' c' : Nat), (binOp .eql 31 (.slice a n c) (.slice none n' c')).run Try.prog w = .ok (.bool a.isNone) w := fun w a n c n' c' => Lib.run_eql_slice_nil w _ _ a n c n' c' Try.underlying31
  go_enter Try.func34, Try.ntmps34
  go_wp2
  go_ret
  exact ⟨rfl, rfl⟩

set_option maxRecDepth 100000 in
set_option maxHeartbeats 800000 in
theorem clone_some (a : Addr) (c : Nat) (bs : List UInt8) (w : World) (hx : Bytes w (.slice (some a) bs.length c) bs) (hl : bs.length ≤ 140737488351232) :
    Calls Try.prog 34 #[.slice (some a) bs.length c] w fun e w' => ∃ v, e = .returned v ∧ w'.ownsRow w.heap.size 5 1 v bs.length (u8s bs) ∧ Same w w' ∧ v ≠ .slice none 0 0 := by
  obtain ⟨i0, hi0, hz0, hz1, hz2⟩ := info_parts Try.infoB8
  have q22 : ∀ (w : World) (a : Option Addr) (n c n' c' : Nat), (binOp .eql 31 (.slice a n c) (.slice none n' c')).run Try.prog w = .ok (.bool a.isNone) w := fun w a n c n' c' => Lib.run_eql_slice_nil w _ _ a n c n' c' Try.underlying31
  have hcell : ∀ o j u, (u8s bs)[j]? = some u → (w.alloc o).cell? (a.add j) = some u := by
    rcases hx with ⟨a', c', h1, hc⟩ | ⟨c', h1, _⟩
    · simp only [Value.slice.injEq, Option.some.injEq] at h1
      obtain ⟨rfl, _, _⟩ := h1
      intro o j u hu
      have h2 := hc j u hu
      rw [World.cell?_of_block (w := w) (Below.heap_alloc w o _ (World.block_lt_of_cell? w _ h2))]
      exact h2
    · simp at h1
  have HC := Lib.hid hcell
  clear hcell hx
  go_enter Try.func34, Try.ntmps34
  go_wp2_with (at_builtin; refine wpList_append_own _ (by rfl) _ _ _ (by rfl) w.heap.size 5 i0 _ 1 1 Try.underlying31 hi0 hz0 hz1 hz2 rfl (by omega) _ 0 [] (by rfl) (World.ownsRow_made w #[] 0 (Nat.le_refl _) (by unfold maxLen; omega) (by simp)) a bs.length c (u8s bs) (by rfl) (by rw [u8s_length, Nat.mul_one]) (HC.out _) (u8s_cell bs) (by unfold maxLen; omega) (by omega) (by simp) ?_)
  intro v' w1 hown1 hgrow hnil
  go_wp2
  go_ret
  refine ⟨v', rfl, by simpa using hown1, ((Keeps.refl _ _).alloc _).grown hgrow (by rintro k hk hlt; simp [Value.ownBlock] at hk; omega), hnil⟩

end Go.Proofs.Ytoimhniijeafaaa
