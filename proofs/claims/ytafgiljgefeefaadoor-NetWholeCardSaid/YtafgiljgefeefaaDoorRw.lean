/- Rows of elements of k cells: copies within them, an element put in between. No program is named here. -/
import Derived.Test.YtafgiljgefeefaaDoorRow
import Derived.Lib.AppendZerosOnto
import Derived.Lib.Overlaps
import Derived.Laws.CopyRow
import Derived.Laws.IdiomCopy
import Derived.Deep.MidRow
import Derived.Shelf.RegionOpen
import Derived.Shelf.RegionOpenPlain
import Derived.Lib.SliceRun
namespace Go.Proofs.YtafgiljgefeefaaDoor
open Go.RowKit
set_option linter.unusedVariables false
section
variable {P : Program}
/-- copy onto a whole row, from wherever it is; elements of k cells. -/
theorem run_copy_row_k (w : World) (dT sT ty elem : TypeId) (k g o dLen dCap : Nat) (a : Addr) (sLen sCap : Nat) (cur : Array Value) (t : TypeId) (cs : List Value)
    (hu : P.underlying dT = some (.slice elem)) (hs : (P.info? elem).map (·.size) = some k)
    (hg : w.heap[g]? = some (.cells cur t (0, 0))) (hn : cs.length = Nat.min sLen dLen * k)
    (hsrc : ∀ j v, cs[j]? = some v → w.cell? (a.add j) = some v) (hfit : o + cs.length ≤ cur.size) (h1 : ∀ v ∈ cs, v.oneCell' = true) :
    (Builtin.copy_ #[dT, sT] ty #[.slice (some ⟨g, o, none⟩) dLen dCap, .slice (some a) sLen sCap]).run P w =
      .ok (goInt (Nat.min sLen dLen)) (w.setRow g (cur.toList.take o ++ cs ++ cur.toList.drop (o + cs.length)).toArray) := by
  have hl := run_loadCells_list (P := P) w a cs hsrc
  have hst := run_storeCells_at P g o t cs 0 cur w hg (by simpa using hfit) h1
  cases hq : P.info? elem with
  | none => simp [hq] at hs
  | some i =>
    have hi : i.size = k := by simpa [hq] using hs
    simp [Builtin.copy_, run_underlying hu, Builtin.lenOf, Builtin.firstCells, sizeOf, typeInfo, hq, hi, ← hn, hl, hst]
end
section
variable {P : Program} {ops : Array Oper} {rest : List Oper} {a : Act} {w : World} {Q : Exit → Act → World → Prop}
theorem wpList_skip {o : Oper} (hw : Region.wanted o (yielded ops a.tmps) = false) (h : wpList P ops Q rest (a.put o.dst undef) w) : wpList P ops Q (o :: rest) a w :=
  wpList_step fun K hK => by rw [if_neg (by rw [hw]; simp)]; exact hK _ _ h
theorem wp_copy_eq {o : Oper} {K : Act → World → Prop} (d x : Operand) (t t' : TypeId) (ho : o.op = .call { callee := .builtin .copy, args := #[d, x], argTypes := #[t, t'] }) (v u r : Value) (w' : World) (hd : a.eval d = v) (hx : a.eval x = u)
    (hr : (Builtin.copy_ #[t, t'] o.type #[v, u]).run P w = .ok r w') (hK : K (a.put o.dst r) w') : Oper.wp P o a w K Q := by
  unfold Oper.wp execOp
  simp only [ho, resolve, invoke, builtin, Sem.run_bind, Sem.run_pure, Result.andThen_ok, List.map_toArray, List.map_cons, List.map_nil, hd, hx, hr]
  exact hK
theorem step_copy_eq {o : Oper} {K : Act → World → Prop} {E : Prop} (hgd : o.guard = none) (d x : Operand) (t t' : TypeId) (ho : o.op = .call { callee := .builtin .copy, args := #[d, x], argTypes := #[t, t'] }) (v u r : Value) (w' : World) (hd : a.eval d = v) (hx : a.eval x = u)
    (hr : (Builtin.copy_ #[t, t'] o.type #[v, u]).run P w = .ok r w') (hK : K (a.put o.dst r) w') : if Region.wanted o (yielded ops a.tmps) = true then Oper.wp P o a w K Q else E := by
  have hw : Region.wanted o (yielded ops a.tmps) = true := by simp [Region.wanted, hgd]
  rw [if_pos hw]
  exact wp_copy_eq d x t t' ho v u r w' hd hx hr hK
theorem wpList_copy_eq {o : Oper} (hgd : o.guard = none) (d x : Operand) (t t' : TypeId) (ho : o.op = .call { callee := .builtin .copy, args := #[d, x], argTypes := #[t, t'] }) (v u r : Value) (w' : World) (hd : a.eval d = v) (hx : a.eval x = u)
    (hr : (Builtin.copy_ #[t, t'] o.type #[v, u]).run P w = .ok r w') (hK : wpList P ops Q rest (a.put o.dst r) w') : wpList P ops Q (o :: rest) a w :=
  wpList_plain hgd fun K hK' => wp_copy_eq d x t t' ho v u r w' hd hx hr (hK' _ _ hK)
theorem wpList_load_mid_w {op : Oper} (hw : Region.wanted op (yielded ops a.tmps) = true) (ty : TypeId) (x : Operand) (ho : op.op = .load ty x)
    (b o : Nat) (hx : a.eval x = .pointer (some ⟨b, o, none⟩)) (cs : List Value) (d : TypeDesc) (hc : w.rangeAt b o cs)
    (hu : P.underlying ty = some d) (hd : d.isRow = true) (hi : (P.info? ty).map (·.size) = some cs.length)
    (h : wpList P ops Q rest (a.put op.dst (.agg cs.toArray)) w) : wpList P ops Q (op :: rest) a w :=
  wpList_step fun K hK => by rw [if_pos hw]; exact wp_load_mid ty x ho b o hx cs d hc hu hd hi (hK _ _ h)
end
section
variable {P : Program}
theorem run_storeVar_in (w : World) (b o : Nat) (ty t : TypeId) (cells cur : Array Value) (hg : w.heap[b]? = some (.cells cur t (0, 0))) (hf : o + cells.size ≤ cur.size) (hi : (P.info? ty).map (·.size) = some cells.size) (h1 : cells.all (·.oneCell') = true) :
    (storeVar ty ⟨b, o, none⟩ (.agg cells)).run P w = .ok () (w.setRow b (cur.toList.take o ++ cells.toList ++ cur.toList.drop (o + cells.toList.length)).toArray) := by
  have := run_storeCells_at P b o t cells.toList 0 cur w hg (by simpa using hf) (fun v hv => (Array.all_eq_true_iff_forall_mem.1 h1) v (by simpa using hv))
  cases hq : P.info? ty with
  | none => simp [hq] at hi
  | some i =>
    have hs : cells.size = i.size := by simp [hq] at hi; omega
    simp only [Nat.add_zero] at this
    simp [storeVar, sizeOf, typeInfo, hq, Value.cells, hs, this]
theorem wp_store_in {op : Oper} {a : Act} {w : World} {K : Act → World → Prop} {Q : Exit → Act → World → Prop} (ty : TypeId) (x y : Operand) (ho : op.op = .store ty x y)
    (b o : Nat) (t : TypeId) (cells cur : Array Value) (hx : a.eval x = .pointer (some ⟨b, o, none⟩)) (hy : a.eval y = .agg cells)
    (hg : w.heap[b]? = some (.cells cur t (0, 0))) (hf : o + cells.size ≤ cur.size) (hi : (P.info? ty).map (·.size) = some cells.size) (h1 : cells.all (·.oneCell') = true)
    (h : K (a.put op.dst undef) (w.setRow b (cur.toList.take o ++ cells.toList ++ cur.toList.drop (o + cells.toList.length)).toArray)) : op.wp P a w K Q := by
  unfold Oper.wp execOp
  simp only [ho, hx, hy, Instr.storeAt, Instr.sureAddr, Sem.run_bind, Sem.run_pure, Result.andThen_ok, run_storeVar_in w b o ty t cells cur hg hf hi h1]
  exact h
theorem wpList_store_in {ops : Array Oper} {rest : List Oper} {op : Oper} {a : Act} {w : World} {Q : Exit → Act → World → Prop} (hgd : op.guard = none) (ty : TypeId) (x y : Operand) (ho : op.op = .store ty x y)
    (b o : Nat) (t : TypeId) (cells cur : Array Value) (hx : a.eval x = .pointer (some ⟨b, o, none⟩)) (hy : a.eval y = .agg cells)
    (hg : w.heap[b]? = some (.cells cur t (0, 0))) (hf : o + cells.size ≤ cur.size) (hi : (P.info? ty).map (·.size) = some cells.size) (h1 : cells.all (·.oneCell') = true)
    (h : wpList P ops Q rest (a.put op.dst undef) (w.setRow b (cur.toList.take o ++ cells.toList ++ cur.toList.drop (o + cells.toList.length)).toArray)) : wpList P ops Q (op :: rest) a w :=
  wpList_plain hgd fun _ hK => wp_store_in ty x y ho b o t cells cur hx hy hg hf hi h1 (hK _ _ h)
end
theorem cell_of_rowL {w : World} {g : Nat} {cur : Array Value} {t : TypeId} {fr : Nat × Nat} (h : w.heap[g]? = some (.cells cur t fr)) (j : Nat) (v : Value) (hj : cur.toList[j]? = some v) : w.cell? ⟨g, j, none⟩ = some v := by
  rw [cell_of_row w g j cur t fr h]; simpa using hj
theorem row_splice_len (cur : List Value) (o : Nat) (cs : List Value) (h : o + cs.length ≤ cur.length) : (cur.take o ++ cs ++ cur.drop (o + cs.length)).length = cur.length := by
  simp only [List.length_append, List.length_take, List.length_drop]; omega
/-- What stands in a row behind the two copies by which an element comes in between. -/
theorem ins_two (cur : List Value) (i k n : Nat) (ys : List Value) (hy : ys.length = k) (hi : i ≤ n) (hc : (n + 1) * k ≤ cur.length) :
    let a := cur.take ((i + 1) * k) ++ (cur.take (n * k)).drop (i * k) ++ cur.drop ((i + 1) * k + ((cur.take (n * k)).drop (i * k)).length)
    (a.take (i * k) ++ ys ++ a.drop (i * k + ys.length)).take ((n + 1) * k) = (cur.take (n * k)).take (i * k) ++ ys ++ (cur.take (n * k)).drop (i * k) := by
  have e1 : (i + 1) * k = i * k + k := Nat.succ_mul i k
  have e2 : (n + 1) * k = n * k + k := Nat.succ_mul n k
  have e3 : i * k ≤ n * k := Nat.mul_le_mul_right k hi
  rw [e2] at hc
  simp only [e1, e2]
  generalize i * k = p at hc e3 ⊢
  generalize n * k = q at hc e3 ⊢
  clear e1 e2
  obtain ⟨d, hd⟩ : ∃ d, (cur.take q).drop p = d := ⟨_, rfl⟩
  have hdl : d.length = q - p := by rw [← hd, List.length_drop, List.length_take]; omega
  simp only [hd]
  have t1 : (cur.take (p + k) ++ d ++ cur.drop (p + k + d.length)).take p = cur.take p := by
    rw [List.append_assoc, List.take_append_of_le_length (by rw [List.length_take]; omega), List.take_take]
    congr 1; omega
  have t2 : (cur.take (p + k) ++ d ++ cur.drop (p + k + d.length)).drop (p + k) = d ++ cur.drop (p + k + d.length) := by
    rw [List.append_assoc, List.drop_append_of_le_length (by rw [List.length_take]; omega), List.drop_take]
    have : p + k - (p + k) = 0 := by omega
    rw [this, List.take_zero, List.nil_append]
  rw [hy, t1, t2, List.take_take, show min p q = p from by omega]
  rw [← List.append_assoc, List.take_append_of_le_length (by simp only [List.length_append, List.length_take]; omega), List.take_of_length_le (by simp only [List.length_append, List.length_take]; omega)]
/-- The same where a new row was laid. -/
theorem ins_new (xs zs : List Value) (i k n : Nat) (ys : List Value) (hy : ys.length = k) (hx : xs.length = n * k) (hi : i ≤ n) (hz : (n + 1) * k - i * k ≤ zs.length) :
    let a := (xs.take (i * k) ++ zs).take (i * k) ++ ys ++ (xs.take (i * k) ++ zs).drop (i * k + ys.length)
    (a.take ((i + 1) * k) ++ xs.drop (i * k) ++ a.drop ((i + 1) * k + (xs.drop (i * k)).length)).take ((n + 1) * k) = xs.take (i * k) ++ ys ++ xs.drop (i * k) := by
  have e1 : (i + 1) * k = i * k + k := Nat.succ_mul i k
  have e2 : (n + 1) * k = n * k + k := Nat.succ_mul n k
  have e3 : i * k ≤ n * k := Nat.mul_le_mul_right k hi
  rw [e2] at hz
  simp only [e1, e2]
  generalize i * k = p at hz e3 ⊢
  generalize n * k = q at hx hz e3 ⊢
  clear e1 e2
  have t0 : (xs.take p ++ zs).take p = xs.take p := by
    rw [List.take_append_of_le_length (by rw [List.length_take]; omega), List.take_take]
    congr 1; omega
  simp only [t0]
  have t1 : (xs.take p ++ ys ++ (xs.take p ++ zs).drop (p + ys.length)).take (p + k) = xs.take p ++ ys := by
    rw [List.take_append_of_le_length (by simp only [List.length_append, List.length_take]; omega), List.take_of_length_le (by simp only [List.length_append, List.length_take]; omega)]
  rw [t1]
  rw [List.take_append_of_le_length (by simp only [List.length_append, List.length_take, List.length_drop]; omega), List.take_of_length_le (by simp only [List.length_append, List.length_take, List.length_drop]; omega)]

section
variable {α : Type} (enc : α → List Value) (K : Nat)
theorem flatK_take : ∀ (vs : List α), (∀ v ∈ vs, (enc v).length = K) → ∀ i, (vs.flatMap enc).take (i * K) = (vs.take i).flatMap enc
  | [], _, i => by simp
  | v :: r, h, 0 => by simp
  | v :: r, h, i + 1 => by
    have hv := h v (by simp)
    rw [List.flatMap_cons, List.take_succ_cons, List.flatMap_cons, Nat.succ_mul, List.take_append, hv, List.take_of_length_le (by omega), show i * K + K - K = i * K from by omega, flatK_take r (fun u hu => h u (by simp [hu])) i]
theorem flatK_drop : ∀ (vs : List α), (∀ v ∈ vs, (enc v).length = K) → ∀ i, (vs.flatMap enc).drop (i * K) = (vs.drop i).flatMap enc
  | [], _, i => by simp
  | v :: r, h, 0 => by simp
  | v :: r, h, i + 1 => by
    have hv := h v (by simp)
    rw [List.flatMap_cons, List.drop_succ_cons, Nat.succ_mul, List.drop_append, hv, List.drop_of_length_le (by omega), List.nil_append, show i * K + K - K = i * K from by omega, flatK_drop r (fun u hu => h u (by simp [hu])) i]
theorem flatK_ins (vs : List α) (h : ∀ v ∈ vs, (enc v).length = K) (i : Nat) (v : α) : (vs.flatMap enc).take (i * K) ++ enc v ++ (vs.flatMap enc).drop (i * K) = (vs.take i ++ v :: vs.drop i).flatMap enc := by
  rw [flatK_take enc K vs h, flatK_drop enc K vs h, List.flatMap_append, List.flatMap_cons, List.append_assoc]
theorem flatK_set (vs : List α) (h : ∀ v ∈ vs, (enc v).length = K) (i : Nat) (hi : i < vs.length) (v : α) : (vs.flatMap enc).take (i * K) ++ enc v ++ (vs.flatMap enc).drop ((i + 1) * K) = (vs.set i v).flatMap enc := by
  rw [flatK_take enc K vs h, flatK_drop enc K vs h, List.set_eq_take_append_cons_drop, if_pos hi, List.flatMap_append, List.flatMap_cons, List.append_assoc]
theorem flatK_len (vs : List α) (h : ∀ v ∈ vs, (enc v).length = K) : (vs.flatMap enc).length = vs.length * K := by
  induction vs with
  | nil => simp
  | cons v r ih => rw [List.flatMap_cons, List.length_append, h v (by simp), ih (fun u hu => h u (by simp [hu])), List.length_cons, Nat.succ_mul]; omega
end
theorem take_splice (cur ys : List Value) (p k q : Nat) (hy : ys.length = k) (h : p + k ≤ q) (hq : q ≤ cur.length) : (cur.take p ++ ys ++ cur.drop (p + ys.length)).take q = (cur.take q).take p ++ ys ++ (cur.take q).drop (p + k) := by
  rw [hy, List.take_take, show min p q = p from by omega, List.take_append, List.take_of_length_le (by simp only [List.length_append, List.length_take]; omega), List.drop_take]
  congr 2
  simp only [List.length_append, List.length_take]
  omega
/-- The search by halves: where it ends. -/
def bsAt (f : Nat → Int) : Nat → Nat → Nat → Nat
  | 0, lo, _ => lo
  | m + 1, lo, hi => if lo < hi then (if f ((lo + hi) / 2) < 0 then bsAt f m ((lo + hi) / 2 + 1) hi else bsAt f m lo ((lo + hi) / 2)) else lo
theorem bsAt_enough (f : Nat → Int) : ∀ (m m' lo hi : Nat), hi - lo ≤ m → hi - lo ≤ m' → bsAt f m lo hi = bsAt f m' lo hi
  | 0, 0, _, _, _, _ => rfl
  | 0, m' + 1, lo, hi, h, _ => by rw [bsAt, bsAt, if_neg (by omega)]
  | m + 1, 0, lo, hi, _, h => by rw [bsAt, bsAt, if_neg (by omega)]
  | m + 1, m' + 1, lo, hi, h, h' => by
    rw [bsAt, bsAt]
    split
    · split
      · exact bsAt_enough f m m' _ _ (by omega) (by omega)
      · exact bsAt_enough f m m' _ _ (by omega) (by omega)
    · rfl
theorem bsAt_le (f : Nat → Int) : ∀ (m lo hi : Nat), lo ≤ hi → bsAt f m lo hi ≤ hi
  | 0, _, _, h => h
  | m + 1, lo, hi, h => by
    rw [bsAt]
    split
    · split
      · exact bsAt_le f m _ _ (by omega)
      · exact Nat.le_trans (bsAt_le f m _ _ (by omega)) (by omega)
    · exact h
/-- Of keys that rise it is the number of those ahead. -/
theorem bsAt_spec (f : Nat → Int) : ∀ (m lo hi n : Nat), lo ≤ hi → hi ≤ n → hi - lo ≤ m → (∀ a b, a ≤ b → b < n → f b < 0 → f a < 0) → (∀ t, t < lo → f t < 0) → (∀ t, hi ≤ t → t < n → ¬ f t < 0) →
    (∀ t, t < bsAt f m lo hi → f t < 0) ∧ (∀ t, bsAt f m lo hi ≤ t → t < n → ¬ f t < 0)
  | 0, lo, hi, n, h1, h2, h3, hm, ha, hb => by
    rw [bsAt]
    exact ⟨ha, fun t ht hn => hb t (by omega) hn⟩
  | m + 1, lo, hi, n, h1, h2, h3, hm, ha, hb => by
    rw [bsAt]
    split
    · split
      · rename_i hl hf
        exact bsAt_spec f m _ _ n (by omega) h2 (by omega) hm (fun t ht => hm t _ (by omega) (by omega) hf) hb
      · rename_i hl hf
        exact bsAt_spec f m _ _ n (by omega) (by omega) (by omega) hm ha (fun t ht hn hft => hf (hm _ t ht hn hft))
    · exact ⟨ha, fun t ht hn => hb t (by omega) hn⟩
end Go.Proofs.YtafgiljgefeefaaDoor
