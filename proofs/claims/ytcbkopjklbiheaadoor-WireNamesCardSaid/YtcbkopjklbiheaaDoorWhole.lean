/- A block of cells as a list (where the hasher's texts are not there). No program is named here. -/
import Derived.Test.YtcbkopjklbiheaaDoorSha4
import Derived.Test.YtcbkopjklbiheaaDoorSha2
import Derived.Test.YtcbkopjklbiheaaDoorEye4
import Derived.Laws.Tables
import Derived.Laws.ResultCell
namespace Go.Proofs.YtcbkopjklbiheaaDoor
open Go.RowKit

theorem Keeps.setRow {S : Nat → Prop} {a w : World} (h : Keeps S a w) (B : Nat) (ds : Array Value) (hp : a.heap.size ≤ B ∨ S B) : Keeps S a (w.setRow B ds) :=
  ⟨h.os, h.tape, h.output, by have := h.size; simp; omega, fun k hk hn => (setRow_other w B k ds (by
    rintro rfl
    rcases hp with hp | hp
    · omega
    · exact hn hp)).trans (h.block k hk hn)⟩
theorem results_row_tmp {P : Program} {fn : Func} {p u : Tmp} {ty : TypeId} (h : fn.results = #[.cell p ty, .tmp u]) (tmps : Array Value) (w : World) (g : Nat) (t : TypeId) (cs : Array Value) (fr : Nat × Nat) (d : TypeDesc)
    (hp : tmps.getD p undef = .pointer (some ⟨g, 0, none⟩)) (hg : w.heap[g]? = some (.cells cs t fr))
    (hu : P.underlying ty = some d) (hd : (match d with | .struct _ | .array _ _ => true | _ => false) = true) (hi : (P.info? ty).map (·.size) = some cs.size) :
    (results fn tmps).run P w = .ok (.tuple #[.agg cs, tmps.getD u undef]) w := by
  rw [results_cell_tmp h, hp]
  simp [asAddr, run_loadVar_row w g t ty cs fr d hg hu hd hi]
end Go.Proofs.YtcbkopjklbiheaaDoor
