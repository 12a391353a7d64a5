/- A block of cells as a list (where neither the hasher nor the eye is there). No program is named here. -/
import Derived.Test.YtafgiljgefeefaaDoorBase
import Derived.Laws.Tables
import Derived.Laws.ResultCell
namespace Go.Proofs.YtafgiljgefeefaaDoor
open Go.RowKit

/-- A block that is known whole. -/
def Whole (w : World) (B : Nat) (t : TypeId) (cs : List Value) : Prop := w.heap[B]? = some (.cells cs.toArray t (0, 0))
theorem Whole.lt {w : World} {B : Nat} {t : TypeId} {cs : List Value} (h : Whole w B t cs) : B < w.heap.size := lt_of_block h
theorem Whole.cell {w : World} {B : Nat} {t : TypeId} {cs : List Value} (h : Whole w B t cs) {i : Nat} {v : Value} (hv : cs[i]? = some v) : w.cell? ⟨B, i, none⟩ = some v := by
  unfold Whole at h
  simp [World.cell?, h, hv]
theorem Whole.free {w : World} {B : Nat} {t : TypeId} {cs : List Value} (h : Whole w B t cs) (i : Nat) : w.frozen? ⟨B, i, none⟩ = false := by
  unfold Whole at h
  simp [World.frozen?, h]
theorem Whole.set {w : World} {B : Nat} {t : TypeId} {cs : List Value} (h : Whole w B t cs) (i : Nat) (v : Value) : Whole (w.setCell ⟨B, i, none⟩ v) B t (cs.set i v) := by
  unfold Whole at h ⊢
  simp [World.setCell, Array.getElem?_modify, h]
theorem Whole.keep {S : Nat → Prop} {w w' : World} {B : Nat} {t : TypeId} {cs : List Value} (h : Whole w B t cs) (k : Keeps S w w') (hB : ¬ S B) : Whole w' B t cs := k.obj h hB
theorem Whole.far {w : World} {B : Nat} {t : TypeId} {cs : List Value} (h : Whole w B t cs) (p : Addr) (hp : B ≠ p.block) (v : Value) : Whole (w.setCell p v) B t cs := (Below.heap_setCell w p v B hp).trans h
theorem Whole.row {w : World} {B : Nat} {t : TypeId} {cs ds : List Value} (h : Whole w B t cs) : Whole (w.setRow B ds.toArray) B t ds := setRow_heap w B _ _ t (0, 0) h
theorem Keeps.setRow {S : Nat → Prop} {a w : World} (h : Keeps S a w) (B : Nat) (ds : Array Value) (hp : a.heap.size ≤ B ∨ S B) : Keeps S a (w.setRow B ds) :=
  ⟨h.os, h.tape, h.output, by have := h.size; simp; omega, fun k hk hn => (setRow_other w B k ds (by
    rintro rfl
    rcases hp with hp | hp
    · omega
    · exact hn hp)).trans (h.block k hk hn)⟩
theorem results_row_tmp {P : Program} {fn : Func} {p u : Tmp} {ty : TypeId} (h : fn.results = #[.cell p ty, .tmp u]) (tmps : Array Value) (w : World) (g : Nat) (t : TypeId) (cs : Array Value) (fr : Nat × Nat) (d : TypeDesc)
    (hp : tmps.getD p undef = .pointer (some ⟨g, 0, none⟩)) (hg : w.heap[g]? = some (.cells cs t fr))
    (hu : P.underlying ty = some d) (hd : (match d with | .struct _ | .array _ _ => true | _ => false) = true) (hi : (P.info? ty).map (·.size) = some cs.size) :
    (results fn tmps).run P w = .ok (.tuple #[.agg cs, tmps.getD u undef]) w := by
  rw [results_cell_tmp h, hp]
  simp [asAddr, run_loadVar_row w g t ty cs fr d hg hu hd hi]
end Go.Proofs.YtafgiljgefeefaaDoor
