/- Guarded operations that are passed over; loads and comparisons that fail fast where they don't fit. No program is named here. -/
import Derived.Test.YtjehihgcbbialaaDoorRw
import Derived.Test.YtjehihgcbbialaaDoorOst
import Derived.Test.YtjehihgcbbialaaDoorLrow
namespace Go.Proofs.YtjehihgcbbialaaDoor
open Go.RowKit
set_option linter.unusedVariables false
section
variable {P : Program} {ops : Array Oper} {rest : List Oper} {a : Act} {w : World} {Q : Exit → Act → World → Prop}
theorem unwanted_undef2 {o : Oper} {tmps : Array Value} (j d : Nat) (b : Bool) (hg : o.guard = some (j, b)) (hd : (ops[j]?).bind (·.dst) = some d) (h : tmps[d]?.getD undef = undef) : Region.wanted o (yielded ops tmps) = false := by
  unfold Region.wanted
  rw [hg]
  cases hq : tmps[d]? with
  | none => simp [yielded, hd, hq]
  | some v => rw [hq] at h; simp at h; subst h; simp [yielded, hd, hq, undef]
theorem wpList_skip_by {o : Oper} (j d : Nat) (b : Bool) (hg : o.guard = some (j, b)) (hd : (ops[j]?).bind (·.dst) = some d) (he : a.tmps[d]?.getD undef = .bool (!b)) (h : wpList P ops Q rest (a.put o.dst undef) w) : wpList P ops Q (o :: rest) a w :=
  wpList_skip (unwanted_by j d b hg hd he) h
theorem wpList_skip_un {o : Oper} (j d : Nat) (b : Bool) (hg : o.guard = some (j, b)) (hd : (ops[j]?).bind (·.dst) = some d) (he : a.tmps[d]?.getD undef = undef) (h : wpList P ops Q rest (a.put o.dst undef) w) : wpList P ops Q (o :: rest) a w :=
  wpList_skip (unwanted_undef2 j d b hg hd he) h
theorem wpList_load_row_g {o : Oper} (hg : o.guard = none) (ty : TypeId) (x : Operand) (ho : o.op = .load ty x)
    (g : Nat) (hx : a.eval x = .pointer (some ⟨g, 0, none⟩)) (t : TypeId) (cs : Array Value) (fr : Nat × Nat) (d : TypeDesc) (hh : w.heap[g]? = some (.cells cs t fr))
    (hu : P.underlying ty = some d) (hd : (match d with | .struct _ | .array _ _ => true | _ => false) = true) (hi : (P.info? ty).map (·.size) = some cs.size)
    (h : wpList P ops Q rest (a.put o.dst (.agg cs)) w) : wpList P ops Q (o :: rest) a w :=
  wpList_load_row_w (by simp [Region.wanted, hg]) ty x ho g hx t cs fr d hh hu hd hi h
theorem wpList_load_row_by {o : Oper} (ty : TypeId) (x : Operand) (ho : o.op = .load ty x) (hw : Region.wanted o (yielded ops a.tmps) = true)
    (g : Nat) (hx : a.eval x = .pointer (some ⟨g, 0, none⟩)) (t : TypeId) (cs : Array Value) (fr : Nat × Nat) (d : TypeDesc) (hh : w.heap[g]? = some (.cells cs t fr))
    (hu : P.underlying ty = some d) (hd : (match d with | .struct _ | .array _ _ => true | _ => false) = true) (hi : (P.info? ty).map (·.size) = some cs.size)
    (h : wpList P ops Q rest (a.put o.dst (.agg cs)) w) : wpList P ops Q (o :: rest) a w :=
  wpList_load_row_w hw ty x ho g hx t cs fr d hh hu hd hi h
theorem wpList_neq_by {o : Oper} (s x : Operand) (t r : TypeId) (ho : o.op = .binOp .neq t s x r) (hw : Region.wanted o (yielded ops a.tmps) = true) (X Y : Array Value) (b : Bool) (hs : a.eval s = .agg X) (hx : a.eval x = .agg Y) (hm : P.eqGuardType P.depth t = false)
    (hr : ∀ wz, (Op.equalIn 10000 t (.agg X) (.agg Y)).run P wz = .ok b wz) (hK : wpList P ops Q rest (a.put o.dst (.bool (!b))) w) : wpList P ops Q (o :: rest) a w :=
  wpList_neq_is hw s x t r ho X Y b hs hx hm hr hK
end
end Go.Proofs.YtjehihgcbbialaaDoor
