/- Arrays within structs and rows: loads from the middle, literals of one element. No program is named here. -/
import Derived.Test.YtafgiljgefeefaaDoorWhole
import Derived.Test.YtafgiljgefeefaaDoorPlan5
import Derived.Deep.MidRow
import Derived.Laws.CopyRow
import Derived.Great.BuildSlice
namespace Go.Proofs.YtafgiljgefeefaaDoor
open Go.RowKit
set_option linter.unusedVariables false

theorem rangeAt_keep {S : Nat → Prop} {w w' : World} {b o : Nat} {cs : List Value} (h : w.rangeAt b o cs) (k : Keeps S w w') (hb : cs ≠ [] → ¬ S b) : w'.rangeAt b o cs := by
  intro j v hv
  have h1 := h j v hv
  have hlt := World.block_lt_of_cell? w _ h1
  have hne : cs ≠ [] := by intro e; subst e; simp at hv
  exact (World.cell?_of_block (w := w) (a := ⟨b, o + j, none⟩) (k.block b hlt (hb hne))).trans h1


theorem fill_two {place : Nat → Option (Nat × Nat)} {n : Nat} (h0 : place 0 = some (0, 1)) (h1 : place 1 = some (1, n)) (base : Array Value) (hb : base.size = n + 1) (v : Value) (hv : v.cells = #[v]) (cs : Array Value) (hc : cs.size = n) :
    Instr.fill place base [(0, v), (1, .agg cs)] = some (v :: cs.toList).toArray := by
  have e1 : (Value.agg cs).cells = cs := rfl
  unfold Instr.fill
  simp only [h0, hv]
  have hz : (#[v].zipIdx.foldl (fun cs (x : Value × Nat) => cs.setIfInBounds (0 + x.2) x.1) base) = base.setIfInBounds 0 v := by simp [Array.zipIdx]
  rw [if_neg (by simp [hb]), hz]
  unfold Instr.fill
  simp only [h1, e1]
  rw [if_neg (by simp [hb, hc, Nat.add_comm])]
  unfold Instr.fill
  congr 1
  obtain ⟨g1, g2⟩ := Great.foldl_set 1 cs.toList 0 (base.setIfInBounds 0 v)
  have hf : cs.zipIdx.foldl (fun cs (x : Value × Nat) => cs.setIfInBounds (1 + x.2) x.1) (base.setIfInBounds 0 v) = (cs.toList.zipIdx 0).foldl (fun cs (x : Value × Nat) => cs.setIfInBounds (1 + x.2) x.1) (base.setIfInBounds 0 v) := by
    rw [← Array.foldl_toList]
    simp
  rw [hf]
  apply Array.ext_getElem?
  intro k
  rw [g2 k]
  simp only [Array.length_toList, Array.size_setIfInBounds, hb, hc]
  cases k with
  | zero => rw [if_neg (by omega)]; simp [hb]
  | succ k =>
    by_cases hk : k < n
    · rw [if_pos (by omega)]
      simp
    · rw [if_neg (by omega), Array.getElem?_eq_none (by simp; omega), Array.getElem?_eq_none (by simp; omega)]

theorem own_range {w : World} {base : Nat} {e : TypeId} {n g cap : Nat} {bs : List UInt8} (h : w.ownsRow base e 1 (.slice (some ⟨g, 0, none⟩) n cap) n (u8s bs)) : w.rangeAt g 0 (u8s bs) := by
  intro q u hu
  have := h.cells rfl q u hu
  have hadd : (⟨g, 0, none⟩ : Addr).add q = ⟨g, 0 + q, none⟩ := by unfold Addr.add; split <;> simp_all
  rw [hadd] at this
  exact this


section
variable {P : Program}
theorem run_buildOne (w : World) (t e : TypeId) (cs : Array Value) (ie : TypeInfo) (z : Value) (hu : P.underlying t = some (.slice e)) (hie : P.info? e = some ie) (hz : ie.zero = some z) (hs : ie.size = cs.size) (hpos : 0 < cs.size) (hsm : cs.size ≤ 2 ^ 24) :
    (Instr.buildSlice t 1 #[(0, .agg cs)]).run P w = .ok (.slice (some ⟨w.heap.size, 0, none⟩) 1 1) (w.alloc (.cells cs e)) := by
  refine run_buildSlice (P := P) w t e 1 _ cs ie z hu hie hz (by rw [hs]; omega) (by rw [hs]; omega) ?_
  obtain ⟨r, hr, hsz, hk⟩ := Great.fill_dense hpos [.agg cs] 0 ((Array.range (1 * ie.size)).map (z.cells[· % z.cells.size]!)) (by intro v hv; simp at hv; subst hv; rfl) (by simp [hs])
  have e1 : (#[((0 : Nat), Value.agg cs)] : Array (Nat × Value)).toList = (([Value.agg cs].zipIdx 0).map fun x => (x.2, x.1)) := rfl
  rw [e1, hs, hs] at *
  rw [hr]
  congr 1
  apply Array.ext_getElem?
  intro k
  rw [hk k]
  by_cases hkk : k < cs.size
  · rw [if_pos (by simp; omega)]
    have h0 : k / cs.size = 0 := Nat.div_eq_of_lt hkk
    have h1 : k % cs.size = k := Nat.mod_eq_of_lt hkk
    simp [h0, h1, Value.cells]
  · rw [if_neg (by simp; omega), Array.getElem?_eq_none (by simp; omega), Array.getElem?_eq_none (by omega)]

theorem wp_buildOne {o : Oper} {a : Act} {w : World} {K : Act → World → Prop} {Q : Exit → Act → World → Prop} (t e : TypeId) (x : Operand) (ho : o.op = .buildSlice t 1 #[(0, x)])
    (cs : Array Value) (ie : TypeInfo) (z : Value) (hx : a.eval x = .agg cs) (hu : P.underlying t = some (.slice e)) (hie : P.info? e = some ie) (hz : ie.zero = some z) (hs : ie.size = cs.size) (hpos : 0 < cs.size) (hsm : cs.size ≤ 2 ^ 24)
    (h : K (a.put o.dst (.slice (some ⟨w.heap.size, 0, none⟩) 1 1)) (w.alloc (.cells cs e))) : o.wp P a w K Q := by
  unfold Oper.wp execOp
  have := run_buildOne (P := P) w t e cs ie z hu hie hz hs hpos hsm
  simp only [ho, List.map_toArray, List.map_cons, List.map_nil, hx, Sem.run_bind, this, Result.andThen_ok]
  exact h

theorem wpList_buildOne {ops : Array Oper} {rest : List Oper} {o : Oper} {a : Act} {w : World} {Q : Exit → Act → World → Prop} (hg : o.guard = none) (t e : TypeId) (x : Operand) (ho : o.op = .buildSlice t 1 #[(0, x)])
    (cs : Array Value) (ie : TypeInfo) (z : Value) (hx : a.eval x = .agg cs) (hu : P.underlying t = some (.slice e)) (hie : P.info? e = some ie) (hz : ie.zero = some z) (hs : ie.size = cs.size) (hpos : 0 < cs.size) (hsm : cs.size ≤ 2 ^ 24)
    (h : wpList P ops Q rest (a.put o.dst (.slice (some ⟨w.heap.size, 0, none⟩) 1 1)) (w.alloc (.cells cs e))) : wpList P ops Q (o :: rest) a w :=
  wpList_plain hg fun _ hK => wp_buildOne t e x ho cs ie z hx hu hie hz hs hpos hsm (hK _ _ h)

variable {Q : Exit → Act → World → Prop}
theorem plan_build {o : Oper} {a : Act} {w : World} {K : Act → World → Prop} (t : TypeId) (parts : Array (Nat × Operand)) (ho : o.op = .build t parts) (cells : Array Value) (hf : P.built t (parts.map fun (i, x) => (i, a.eval x)).toList = some cells)
    (h : K (a.put o.dst (.agg cells)) w) : Oper.wp P o a w K Q := by
  unfold Oper.wp execOp
  simp only [ho, Sem.run_bind, run_build w t _ _ hf, Result.andThen_ok]
  exact h

end
end Go.Proofs.YtafgiljgefeefaaDoor
