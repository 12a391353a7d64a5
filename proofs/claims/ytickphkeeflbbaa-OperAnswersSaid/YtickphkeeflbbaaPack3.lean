/- What (*pack.Pen).Data does. -/
import Derived.Test.YtickphkeeflbbaaPack2
namespace Go.Proofs.Ytickphkeeflbbaa
open Go.RowKit

set_option maxRecDepth 100000 in
set_option maxHeartbeats 800000 in
theorem data_any (B base : Nat) (row : Option Nat) (bs : List UInt8) (w : World) (hp : Pen 56 5 w B base row bs) (hl : bs.length ≤ 140737488351232) :
    Calls Try.prog 26 #[.pointer (some ⟨B, 0, none⟩)] w fun e w' => ∃ v, e = .returned v ∧ w'.ownsRow w.heap.size 5 1 v bs.length (u8s bs) ∧ Same w w' := by
  obtain ⟨v, hv, hb, hown⟩ := hp.ex
  have hc := cell_of_one hb
  have hx := Bytes.of_own hown
  have hO := Lib.hid hown
  clear hp hv hb hown
  rcases hO.out.2 with ⟨rfl, h0⟩ | ⟨g, cap, cur, rfl, hrest⟩
  · have h0' : bs = [] := List.length_eq_zero_iff.1 h0
    subst h0'
    go_enter Try.func26, Try.ntmps26
    go_wp2_with fail
    ((with_reducible refine (clone_nil 0 _).mono ?_); rintro e w1 ⟨rfl, rfl⟩)
    go_wp2
    go_ret
    exact ⟨_, rfl, World.ownsRow_nil _ _ _ _, Keeps.refl _ _⟩
  · clear hrest
    go_enter Try.func26, Try.ntmps26
    go_wp2_with fail
    ((with_reducible refine (clone_some ⟨g, 0, none⟩ cap bs _ hx hl).mono ?_); rintro e w1 ⟨v, rfl, h1, h2, _⟩)
    go_wp2
    go_ret
    exact ⟨v, rfl, h1, h2⟩

end Go.Proofs.Ytickphkeeflbbaa
