/- A box that stays, and a row of bytes that grows. No program is named here. -/
import Derived.Test.YtafgiljgefeefaaDoorPlan5
import Derived.Test.YtafgiljgefeefaaDoorRow
import Derived.Test.YtafgiljgefeefaaDoorFresh
namespace Go.Proofs.YtafgiljgefeefaaDoor
open Go.RowKit
set_option linter.unusedVariables false

/-- A guarded operation is passed over where its guard says otherwise. -/
theorem unwanted_by {ops : Array Oper} {o : Oper} {tmps : Array Value} (j d : Nat) (b : Bool) (hg : o.guard = some (j, b)) (hd : (ops[j]?).bind (·.dst) = some d) (h : tmps[d]?.getD undef = .bool (!b)) : Region.wanted o (yielded ops tmps) = false := by
  unfold Region.wanted
  rw [hg]
  have h2 : tmps[d]? = some (.bool (!b)) := by
    cases hq : tmps[d]? with
    | none => rw [hq] at h; simp [undef] at h
    | some v => rw [hq] at h; simp at h; rw [h]
  simp [yielded, hd, h2]
theorem byteOf (x : Nat) (h : x < 256) : ((UInt8.ofNat x).toNat : Int) = (x : Int) := by
  rw [UInt8.toNat_ofNat']; omega
theorem be1 (x : Nat) (h : x < 256) : u8s (be x 1) = [.int .u8 (x : Int)] := by
  have h2 : be x 1 = [UInt8.ofNat x] := by simp [be]
  rw [h2]
  simp only [u8s, List.map_cons, List.map_nil, byteOf x h]
/-- Block B holds cs; a row of the call's own holds xs; all that was there stays. -/
structure OSt (w w' : World) (B lo : Nat) (T E : TypeId) (cs : Array Value) (g cap : Nat) (xs : List UInt8) : Prop where
  op : w'.heap[B]? = some (.cells cs T (0, 0))
  own : w'.ownsRow lo E 1 (.slice (some ⟨g, 0, none⟩) xs.length cap) xs.length (u8s xs)
  same : Same w w'
  lo1 : w.heap.size ≤ lo
  lo2 : B < lo
theorem OSt.far {w w' : World} {B lo : Nat} {T E : TypeId} {cs : Array Value} {g cap : Nat} {xs : List UInt8} (h : OSt w w' B lo T E cs g cap xs) : lo ≤ g ∧ g < w'.heap.size ∧ B < w'.heap.size := ⟨(h.own.lt g rfl).1, (h.own.lt g rfl).2, lt_of_block h.op⟩
theorem OSt.keep {w w' w'' : World} {B lo : Nat} {T E : TypeId} {cs : Array Value} {g cap : Nat} {xs : List UInt8} (h : OSt w w' B lo T E cs g cap xs) (k : Same w' w'') : OSt w w'' B lo T E cs g cap xs :=
  ⟨k.obj h.op (fun e => e), own_keeps k h.own (fun _ _ e => e), h.same.trans k (fun _ _ e => e), h.lo1, h.lo2⟩
theorem OSt.keepg {w w' w'' : World} {B lo : Nat} {T E : TypeId} {cs : Array Value} {g cap g' cap' : Nat} {xs ys : List UInt8} (h : OSt w w' B lo T E cs g cap xs) (k : Keeps (fun q => q = g) w' w'')
    (ho : w''.ownsRow lo E 1 (.slice (some ⟨g', 0, none⟩) ys.length cap') ys.length (u8s ys)) : OSt w w'' B lo T E cs g' cap' ys := by
  have hf := h.far
  have := h.lo1; have := h.lo2
  exact ⟨k.obj h.op (by omega), ho, h.same.trans k (fun q hq e => by omega), h.lo1, h.lo2⟩
theorem OSt.grow {w w' w'' : World} {B lo : Nat} {T E : TypeId} {cs : Array Value} {g cap g' cap' : Nat} {xs more : List UInt8} (h : OSt w w' B lo T E cs g cap xs) (ho : w''.ownsRow lo E 1 (.slice (some ⟨g', 0, none⟩) (xs.length + more.length) cap') (xs.length + more.length) (u8s (xs ++ more)))
    (hg : w'.grownBy w'' (some g)) : OSt w w'' B lo T E cs g' cap' (xs ++ more) := by
  refine h.keepg ((Keeps.refl _ _).grown hg (fun k e _ => by simp only [Option.some.injEq] at e; exact e.symm)) ?_
  rw [List.length_append]; exact ho
/-- A row, and what an append made of it. -/
def HandS (b1 g cap : Nat) (T : TypeId) (y m : List UInt8) : Nat → Value → World → Prop
  | 0, _, w => w.ownsRow b1 T 1 (.slice (some ⟨g, 0, none⟩) y.length cap) y.length (u8s y)
  | _ + 1, v, w => ∃ g' cap', v = .slice (some ⟨g', 0, none⟩) (y ++ m).length cap' ∧ w.ownsRow b1 T 1 (.slice (some ⟨g', 0, none⟩) (y ++ m).length cap') (y ++ m).length (u8s (y ++ m))
theorem HandS.same {b1 g cap : Nat} {T : TypeId} {y m : List UInt8} (q : Nat) (v : Value) (w w' : World) (h : HandS b1 g cap T y m q v w) (k : Same w w') : HandS b1 g cap T y m q v w' := by
  match q with
  | 0 => exact own_keeps k h (fun _ _ e => e)
  | q + 1 => obtain ⟨g', c', e, h⟩ := h; exact ⟨g', c', e, own_keeps k h (fun _ _ e => e)⟩
end Go.Proofs.YtafgiljgefeefaaDoor
