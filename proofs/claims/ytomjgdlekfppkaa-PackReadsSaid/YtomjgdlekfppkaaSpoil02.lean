/- What 'spoil' does. -/
import Derived.Test.YtomjgdlekfppkaaRef02
namespace Go.Proofs.Ytomjgdlekfppkaa
open Go.RowKit
set_option linter.unusedVariables false

/-- What 'spoil' may change: a row. -/
def RowOf (v : Value) : Nat → Prop := fun k => v.ownBlock = some k

set_option maxRecDepth 100000 in
set_option maxHeartbeats 1600000 in
theorem spoil_any (base : Nat) (v : Value) (bs : List UInt8) (w : World) (h : w.ownsRow base 5 1 v bs.length (u8s bs)) (hl : bs.length ≤ maxLen) :
    Calls Try.prog 16 #[v] w fun e w' => e = .returned (.tuple #[]) ∧ Keeps (RowOf v) w w' := by
  unfold maxLen at hl
  rcases h.2 with ⟨rfl, h0⟩ | ⟨g, cap, cur, rfl, hrest⟩
  · rw [h0] at hl h
    clear h hl
    go_enter Try.func16, Try.ntmps16
    go_wp2
    refine wp_loop_rounds 1 ?_
    rw [rounds_succ]
    go_wp2
    go_end0
    exact ⟨rfl, Keeps.refl _ _⟩
  · clear hrest
    have HO := Lib.hid h
    clear h
    generalize hn : bs.length = n at *
    have HN := Lib.hid hn
    clear hn
    go_enter Try.func16, Try.ntmps16
    go_wp2
    go_loopw [5] (fun i wr => ∃ k : Nat, k ≤ n ∧ i = .int .i64 k ∧ (∃ bs' : List UInt8, wr.ownsRow base 5 1 (.slice (some ⟨g, 0, none⟩) n cap) n (u8s bs')) ∧ Keeps (RowOf (.slice (some ⟨g, 0, none⟩) n cap)) w wr) (fun i _ => n - (intOf i).toNat)
    case atStart => exact ⟨0, by omega, rfl, ⟨bs, HO.out⟩, Keeps.refl _ _⟩
    case round =>
      obtain ⟨k, hk, rfl, ⟨bs', hown⟩, hkk⟩ := hrel
      have HO1 := Lib.hid hown
      have HK1 := Lib.hid hkk
      by_cases hlt : k < n
      · obtain ⟨hc, hf⟩ := own_cell hown k hlt
        clear hown hkk
        go_wp2
        go_roundw
        case rel => exact ⟨k + 1, by omega, by go_num, ⟨bs'.set k 238, own_set8 238 HO1.out hlt (by rfl)⟩, HK1.out.setCell _ _ (.inr rfl)⟩
        case measure => simp [intOf]; omega
      · clear hown hkk
        go_wp2
        go_end0
        exact ⟨rfl, HK1.out⟩

end Go.Proofs.Ytomjgdlekfppkaa
