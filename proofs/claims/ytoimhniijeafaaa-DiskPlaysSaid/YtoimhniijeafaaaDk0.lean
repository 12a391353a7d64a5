/- Rows of arrays: blocks of cells told by their elements; a load from the middle, a store into it. No program is named here. -/
import Derived.Test.YtoimhniijeafaaaWhole0
import Derived.Deep.MidRow
import Derived.Laws.CopyRow
import Derived.Great.BuildSlice
namespace Go.Proofs.Ytoimhniijeafaaa
open Go.RowKit
set_option linter.unusedVariables false

section
variable {α : Type} {f : α → List Value} {n : Nat}
theorem flat_len : ∀ {l : List α}, (∀ x ∈ l, (f x).length = n) → (l.flatMap f).length = l.length * n
  | [], _ => by simp
  | x :: r, h => by
    rw [List.flatMap_cons, List.length_append, h x (by simp), flat_len (fun y hy => h y (by simp [hy])), List.length_cons, Nat.succ_mul, Nat.add_comm]
theorem flat_take_drop : ∀ {l : List α}, (∀ x ∈ l, (f x).length = n) → ∀ (i : Nat) (h : i < l.length), l.flatMap f = (l.take i).flatMap f ++ (f l[i] ++ (l.drop (i + 1)).flatMap f) := by
  intro l hl i h
  conv => lhs; rw [← List.take_append_drop i l, List.flatMap_append, List.drop_eq_getElem_cons h, List.flatMap_cons]
theorem flat_get {l : List α} (hl : ∀ x ∈ l, (f x).length = n) (i : Nat) (h : i < l.length) (j : Nat) (v : Value) (hj : (f l[i])[j]? = some v) : (l.flatMap f)[i * n + j]? = some v := by
  have hlt := (List.getElem?_eq_some_iff.1 hj).1
  have hti : ((l.take i).flatMap f).length = i * n := by
    rw [flat_len (n := n) (fun x hx => hl x (List.mem_of_mem_take hx)), List.length_take]
    rw [Nat.min_eq_left (by omega)]
  rw [flat_take_drop hl i h, List.getElem?_append_right (by omega), hti, List.getElem?_append_left (by omega)]
  rw [show i * n + j - i * n = j from by omega]
  exact hj
theorem flat_set {l : List α} (hl : ∀ x ∈ l, (f x).length = n) (i : Nat) (h : i < l.length) (y : α) (hy : (f y).length = n) : (l.set i y).flatMap f = (l.flatMap f).take (i * n) ++ f y ++ (l.flatMap f).drop (i * n + n) := by
  have hti : ((l.take i).flatMap f).length = i * n := by
    rw [flat_len (n := n) (fun x hx => hl x (List.mem_of_mem_take hx)), List.length_take]
    rw [Nat.min_eq_left (by omega)]
  have hi : (f l[i]).length = n := hl _ (List.getElem_mem h)
  have h1 : (l.set i y).flatMap f = (l.take i).flatMap f ++ (f y ++ (l.drop (i + 1)).flatMap f) := by
    rw [flat_take_drop (f := f) (n := n) (l := l.set i y) (fun x hx => by
      rcases List.mem_or_eq_of_mem_set hx with hx | rfl
      · exact hl x hx
      · exact hy) i (by simpa using h)]
    rw [List.getElem_set_self, List.take_set_of_le (Nat.le_refl i), List.drop_set_of_lt (by omega)]
  have h2 := flat_take_drop hl i h
  generalize (l.take i).flatMap f = A at *
  generalize (l.drop (i + 1)).flatMap f = B at *
  generalize f l[i] = x at *
  rw [h1, h2, List.take_append_of_le_length (by omega), List.take_of_length_le (l := A) (by omega), List.append_assoc]
  congr 2
  rw [List.drop_append, hti, List.drop_of_length_le (l := A) (by omega), List.nil_append]
  rw [show i * n + n - i * n = n from by omega, List.drop_append, List.drop_of_length_le (l := x) (by omega), hi, Nat.sub_self]
  simp
theorem flat_one (hx : ∀ x, ∀ u ∈ f x, u.oneCell' = true) (l : List α) : ∀ u ∈ l.flatMap f, u.oneCell' = true := by
  intro u hu
  obtain ⟨x, _, h2⟩ := List.mem_flatMap.1 hu
  exact hx x u h2
end
/-- A list that begins with what is told, spliced in the middle. -/
theorem splice_take {l told vs : List Value} {N o : Nat} (h : l.take N = told) (hN : N ≤ l.length) (ho : o + vs.length ≤ N) : (l.take o ++ vs ++ l.drop (o + vs.length)).take N = told.take o ++ vs ++ told.drop (o + vs.length) := by
  subst h
  have h1 : (l.take o).length = o := by rw [List.length_take]; omega
  rw [List.take_append, List.take_of_length_le (by rw [List.length_append, h1]; omega)]
  congr 1
  · rw [List.take_take, Nat.min_eq_left (by omega)]
  · rw [List.length_append, h1, List.drop_take]

theorem rangeAt_keep {S : Nat → Prop} {w w' : World} {b o : Nat} {cs : List Value} (h : w.rangeAt b o cs) (k : Keeps S w w') (hb : cs ≠ [] → ¬ S b) : w'.rangeAt b o cs := by
  intro j v hv
  have h1 := h j v hv
  have hlt := World.block_lt_of_cell? w _ h1
  have hne : cs ≠ [] := by intro e; subst e; simp at hv
  exact (World.cell?_of_block (w := w) (a := ⟨b, o + j, none⟩) (k.block b hlt (hb hne))).trans h1

section
variable {α : Type} {f : α → List Value} {n : Nat}
/-- A row of its own, told by its elements. -/
def OwnRow (w : World) (t : TypeId) (n : Nat) (f : α → List Value) (v : Value) (l : List α) : Prop := w.ownsRow 0 t n v l.length (l.flatMap f)
theorem OwnRow.keep {S : Nat → Prop} {w w' : World} {t : TypeId} {v : Value} {l : List α} (h : OwnRow w t n f v l) (k : Keeps S w w') (hs : ∀ k, v.ownBlock = some k → ¬ S k) : OwnRow w' t n f v l := own_keeps k h hs
theorem OwnRow.lt {w : World} {t : TypeId} {v : Value} {l : List α} (h : OwnRow w t n f v l) : ∀ k, v.ownBlock = some k → k < w.heap.size := fun k e => (World.ownsRow.lt h k e).2
theorem OwnRow.form {w : World} {t : TypeId} {v : Value} {l : List α} (h : OwnRow w t n f v l) : ∃ ao c, v = .slice ao l.length c ∧ l.length ≤ c ∧ ∀ a, ao = some a → ∃ g, a = ⟨g, 0, none⟩ := by
  rcases h.2 with ⟨h1, h2⟩ | ⟨g, cap, cur, h1, _, _, h3, _⟩
  · exact ⟨none, 0, by rw [h1, h2], by omega, fun a e => by cases e⟩
  · exact ⟨_, cap, h1, h3, fun a e => by cases e; exact ⟨g, rfl⟩⟩
/-- One element. -/
theorem OwnRow.at {w : World} {t : TypeId} {v : Value} {l : List α} (h : OwnRow w t n f v l) (hl : ∀ x ∈ l, (f x).length = n) (i : Nat) (hi : i < l.length) : ∃ g c, v = .slice (some ⟨g, 0, none⟩) l.length c ∧ w.rangeAt g (i * n) (f l[i]) := by
  rcases h.2 with ⟨h1, h2⟩ | ⟨g, cap, cur, h1, _⟩
  · omega
  · refine ⟨g, cap, h1, fun j u hu => ?_⟩
    have h2 := World.ownsRow.cells h (g := g) (by rw [h1]; rfl) (i * n + j) u (flat_get hl i hi j u hu)
    rw [Addr.add_mid] at h2
    simpa using h2
/-- A store of one element. -/
theorem OwnRow.put {w : World} {t : TypeId} {g c : Nat} {l : List α} (h : OwnRow w t n f (.slice (some ⟨g, 0, none⟩) l.length c) l) (hl : ∀ x ∈ l, (f x).length = n) (i : Nat) (hi : i < l.length) (y : α) (hy : (f y).length = n) :
    ∃ cur, w.heap[g]? = some (.cells cur t (0, 0)) ∧ i * n + n ≤ cur.size ∧ OwnRow (w.setRow g (cur.toList.take (i * n) ++ f y ++ cur.toList.drop (i * n + (f y).length)).toArray) t n f (.slice (some ⟨g, 0, none⟩) l.length c) (l.set i y) := by
  rcases h.2 with ⟨h1, _⟩ | ⟨g', cap, cur, h1, hb, hg, hn, hc, hs, ht⟩
  · simp at h1
  · simp only [Value.slice.injEq, Option.some.injEq, Addr.mk.injEq, and_true] at h1
    obtain ⟨rfl, _, rfl⟩ := h1
    have hin : i * n + n ≤ l.length * n := by
      have : (i + 1) * n ≤ l.length * n := Nat.mul_le_mul_right n (by omega)
      rw [Nat.succ_mul] at this; omega
    have hlc : l.length * n ≤ c * n := Nat.mul_le_mul_right n hn
    have hcl : cur.toList.length = c * n := by rw [Array.length_toList, hs]
    refine ⟨cur, hg, by omega, ⟨?_, .inr ⟨g, c, _, by rw [List.length_set], hb, setRow_heap w g cur _ t _ hg, by rw [List.length_set]; exact hn, hc, ?_, ?_⟩⟩⟩
    · rw [flat_len (n := n) (fun x hx => by
        rcases List.mem_or_eq_of_mem_set hx with hx | rfl
        · exact hl x hx
        · exact hy)]
    · simp only [List.size_toArray, List.length_append, List.length_take, List.length_drop, hcl, hy]
      omega
    · rw [List.length_set, List.toList_toArray, splice_take ht (by omega) (by rw [hy]; omega), flat_set hl i hi y hy, hy]
end

section
variable {P : Program}
theorem run_storeVar_at (w : World) (b o : Nat) (ty t : TypeId) (cells cur : Array Value) (hg : w.heap[b]? = some (.cells cur t (0, 0))) (hf : o + cells.size ≤ cur.size) (hi : (P.info? ty).map (·.size) = some cells.size) (h1 : cells.all (·.oneCell') = true) :
    (storeVar ty ⟨b, o, none⟩ (.agg cells)).run P w = .ok () (w.setRow b (cur.toList.take o ++ cells.toList ++ cur.toList.drop (o + cells.toList.length)).toArray) := by
  have := run_storeCells_at P b o t cells.toList 0 cur w hg (by simpa using hf) (fun v hv => (Array.all_eq_true_iff_forall_mem.1 h1) v (by simpa using hv))
  cases hq : P.info? ty with
  | none => simp [hq] at hi
  | some i =>
    have hs : cells.size = i.size := by simp [hq] at hi; omega
    simp only [Nat.add_zero] at this
    simp [storeVar, sizeOf, typeInfo, hq, Value.cells, hs, this]
theorem wp_store_at {op : Oper} {a : Act} {w : World} {K : Act → World → Prop} {Q : Exit → Act → World → Prop} (ty : TypeId) (x y : Operand) (ho : op.op = .store ty x y)
    (b o : Nat) (t : TypeId) (cells cur : Array Value) (hx : a.eval x = .pointer (some ⟨b, o, none⟩)) (hy : a.eval y = .agg cells)
    (hg : w.heap[b]? = some (.cells cur t (0, 0))) (hf : o + cells.size ≤ cur.size) (hi : (P.info? ty).map (·.size) = some cells.size) (h1 : cells.all (·.oneCell') = true)
    (h : K (a.put op.dst undef) (w.setRow b (cur.toList.take o ++ cells.toList ++ cur.toList.drop (o + cells.toList.length)).toArray)) : op.wp P a w K Q := by
  unfold Oper.wp execOp
  simp only [ho, hx, hy, Instr.storeAt, Instr.sureAddr, Sem.run_bind, Sem.run_pure, Result.andThen_ok, run_storeVar_at w b o ty t cells cur hg hf hi h1]
  exact h
theorem wpList_store_at {ops : Array Oper} {rest : List Oper} {op : Oper} {a : Act} {w : World} {Q : Exit → Act → World → Prop} (hgd : op.guard = none) (ty : TypeId) (x y : Operand) (ho : op.op = .store ty x y)
    (b o : Nat) (t : TypeId) (cells cur : Array Value) (hx : a.eval x = .pointer (some ⟨b, o, none⟩)) (hy : a.eval y = .agg cells)
    (hg : w.heap[b]? = some (.cells cur t (0, 0))) (hf : o + cells.size ≤ cur.size) (hi : (P.info? ty).map (·.size) = some cells.size) (h1 : cells.all (·.oneCell') = true)
    (h : wpList P ops Q rest (a.put op.dst undef) (w.setRow b (cur.toList.take o ++ cells.toList ++ cur.toList.drop (o + cells.toList.length)).toArray)) : wpList P ops Q (op :: rest) a w :=
  wpList_plain hgd fun _ hK => wp_store_at ty x y ho b o t cells cur hx hy hg hf hi h1 (hK _ _ h)
end

section
variable {P : Program}
/-- A slice literal of one array. -/
theorem run_buildOne (w : World) (t e : TypeId) (cs : Array Value) (ie : TypeInfo) (z : Value) (hu : P.underlying t = some (.slice e)) (hie : P.info? e = some ie) (hz : ie.zero = some z) (hs : ie.size = cs.size) (hpos : 0 < cs.size) (hsm : cs.size ≤ 2 ^ 24) :
    (Instr.buildSlice t 1 #[(0, .agg cs)]).run P w = .ok (.slice (some ⟨w.heap.size, 0, none⟩) 1 1) (w.alloc (.cells cs e)) := by
  refine run_buildSlice (P := P) w t e 1 _ cs ie z hu hie hz (by rw [hs]; omega) (by rw [hs]; omega) ?_
  obtain ⟨r, hr, hsz, hk⟩ := Great.fill_dense hpos [.agg cs] 0 ((Array.range (1 * ie.size)).map (z.cells[· % z.cells.size]!)) (by intro v hv; simp at hv; subst hv; rfl) (by simp [hs])
  have e1 : (#[((0 : Nat), Value.agg cs)] : Array (Nat × Value)).toList = (([Value.agg cs].zipIdx 0).map fun x => (x.2, x.1)) := rfl
  rw [e1, hs, hs] at *
  rw [hr]
  congr 1
  apply Array.ext_getElem?
  intro k
  rw [hk k]
  by_cases hkk : k < cs.size
  · rw [if_pos (by simp; omega)]
    have h0 : k / cs.size = 0 := Nat.div_eq_of_lt hkk
    have h1 : k % cs.size = k := Nat.mod_eq_of_lt hkk
    simp [h0, h1, Value.cells]
  · rw [if_neg (by simp; omega), Array.getElem?_eq_none (by simp; omega), Array.getElem?_eq_none (by omega)]
theorem wp_buildOne {o : Oper} {a : Act} {w : World} {K : Act → World → Prop} {Q : Exit → Act → World → Prop} (t e : TypeId) (x : Operand) (ho : o.op = .buildSlice t 1 #[(0, x)])
    (cs : Array Value) (ie : TypeInfo) (z : Value) (hx : a.eval x = .agg cs) (hu : P.underlying t = some (.slice e)) (hie : P.info? e = some ie) (hz : ie.zero = some z) (hs : ie.size = cs.size) (hpos : 0 < cs.size) (hsm : cs.size ≤ 2 ^ 24)
    (h : K (a.put o.dst (.slice (some ⟨w.heap.size, 0, none⟩) 1 1)) (w.alloc (.cells cs e))) : o.wp P a w K Q := by
  unfold Oper.wp execOp
  have := run_buildOne (P := P) w t e cs ie z hu hie hz hs hpos hsm
  simp only [ho, List.map_toArray, List.map_cons, List.map_nil, hx, Sem.run_bind, this, Result.andThen_ok]
  exact h
theorem wpList_buildOne {ops : Array Oper} {rest : List Oper} {o : Oper} {a : Act} {w : World} {Q : Exit → Act → World → Prop} (hg : o.guard = none) (t e : TypeId) (x : Operand) (ho : o.op = .buildSlice t 1 #[(0, x)])
    (cs : Array Value) (ie : TypeInfo) (z : Value) (hx : a.eval x = .agg cs) (hu : P.underlying t = some (.slice e)) (hie : P.info? e = some ie) (hz : ie.zero = some z) (hs : ie.size = cs.size) (hpos : 0 < cs.size) (hsm : cs.size ≤ 2 ^ 24)
    (h : wpList P ops Q rest (a.put o.dst (.slice (some ⟨w.heap.size, 0, none⟩) 1 1)) (w.alloc (.cells cs e))) : wpList P ops Q (o :: rest) a w :=
  wpList_plain hg fun _ hK => wp_buildOne t e x ho cs ie z hx hu hie hz hs hpos hsm (hK _ _ h)
end
end Go.Proofs.Ytoimhniijeafaaa
