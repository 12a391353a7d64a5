/- Comparison of arrays of bytes, like or unlike. -/
import Derived.Test.YtafgiljgefeefaaDoorBase
import Derived.Laws.StructEq
namespace Go.Proofs.YtafgiljgefeefaaDoor
open Go.RowKit
set_option linter.unusedVariables false

/-- Two values are compared, whatever comes out. -/
theorem wpList_eql_is {P : Program} {ops : Array Oper} {rest : List Oper} {o : Oper} {a : Act} {w : World} {Q : Exit → Act → World → Prop} (hw : Region.wanted o (yielded ops a.tmps) = true) (s x : Operand) (t r : TypeId)
    (ho : o.op = .binOp .eql t s x r) (X Y : Array Value) (b : Bool) (hs : a.eval s = .agg X) (hx : a.eval x = .agg Y) (hm : P.eqGuardType P.depth t = false) (hr : ∀ wz, (Op.equalIn 10000 t (.agg X) (.agg Y)).run P wz = .ok b wz)
    (hK : wpList P ops Q rest (a.put o.dst (.bool b)) w) : wpList P ops Q (o :: rest) a w := by
  refine wpList_step fun K hK' => ?_
  rw [if_pos hw]
  unfold Oper.wp execOp
  simp only [ho, hs, hx, Sem.run_bind, Sem.run_pure, run_eqGuard_agg w .eql t s x X Y hm, Result.andThen_ok, run_eql_struct, hr]
  exact hK' _ _ hK
theorem wpList_neq_is {P : Program} {ops : Array Oper} {rest : List Oper} {o : Oper} {a : Act} {w : World} {Q : Exit → Act → World → Prop} (hw : Region.wanted o (yielded ops a.tmps) = true) (s x : Operand) (t r : TypeId)
    (ho : o.op = .binOp .neq t s x r) (X Y : Array Value) (b : Bool) (hs : a.eval s = .agg X) (hx : a.eval x = .agg Y) (hm : P.eqGuardType P.depth t = false) (hr : ∀ wz, (Op.equalIn 10000 t (.agg X) (.agg Y)).run P wz = .ok b wz)
    (hK : wpList P ops Q rest (a.put o.dst (.bool (!b))) w) : wpList P ops Q (o :: rest) a w := by
  refine wpList_step fun K hK' => ?_
  rw [if_pos hw]
  unfold Oper.wp execOp
  simp only [ho, hs, hx, Sem.run_bind, Sem.run_pure, run_eqGuard_agg w .neq t s x X Y hm, Result.andThen_ok, run_neq_struct, hr]
  exact hK' _ _ hK

theorem exec_eql_is {P : Program} {o : Oper} {a : Act} {w : World} (s x : Operand) (t r : TypeId) (ho : o.op = .binOp .eql t s x r) (X Y : Array Value) (b : Bool) (hs : a.eval s = .agg X) (hx : a.eval x = .agg Y) (hm : P.eqGuardType P.depth t = false)
    (hr : ∀ wz, (Op.equalIn 10000 t (.agg X) (.agg Y)).run P wz = .ok b wz) : (execOp a.eval o).run P w = .ok (.value (.bool b)) w := by
  unfold execOp
  simp only [ho, hs, hx, Sem.run_bind, Sem.run_pure, run_eqGuard_agg w .eql t s x X Y hm, Result.andThen_ok, run_eql_struct, hr]
theorem exec_neq_is {P : Program} {o : Oper} {a : Act} {w : World} (s x : Operand) (t r : TypeId) (ho : o.op = .binOp .neq t s x r) (X Y : Array Value) (b : Bool) (hs : a.eval s = .agg X) (hx : a.eval x = .agg Y) (hm : P.eqGuardType P.depth t = false)
    (hr : ∀ wz, (Op.equalIn 10000 t (.agg X) (.agg Y)).run P wz = .ok b wz) : (execOp a.eval o).run P w = .ok (.value (.bool (!b))) w := by
  unfold execOp
  simp only [ho, hs, hx, Sem.run_bind, Sem.run_pure, run_eqGuard_agg w .neq t s x X Y hm, Result.andThen_ok, run_neq_struct, hr]
theorem run_forIn_first {P : Program} {w : World} (g : Nat → Bool) (f : Nat → Option Bool × Unit → Sem (ForInStep (Option Bool × Unit))) : ∀ (l : List Nat),
    (∀ i ∈ l, (f i (none, ())).run P w = .ok (if g i then .yield (none, ()) else .done (some false, ())) w) → (forIn l (none, ()) f).run P w = .ok (if l.all g then (none, ()) else (some false, ())) w
  | [], _ => by simp
  | i :: l, h => by
    rw [List.forIn_cons, Sem.run_bind, h i (by simp), Result.andThen_ok]
    cases hg : g i
    · simp [hg]
    · simp only [if_true, List.all_cons, hg, Bool.true_and]
      exact run_forIn_first g f l fun j hj => h j (by simp [hj])

theorem run_equal_bytes {P : Program} (w : World) (d : Nat) (t e : TypeId) (i : TypeInfo) (n : Nat) (a b : List UInt8) (ht : P.underlying t = some (.array n e)) (he : P.underlying e = some (.int .u8)) (hi : P.info? e = some i) (hs : i.size = 1) (ha : a.length = n) (hb : b.length = n) :
    (Op.equalIn (d + 2) t (.agg (u8s a).toArray) (.agg (u8s b).toArray)).run P w = .ok (decide (a = b)) w := by
  have hpa : ∀ j, j < n → (part e (u8s a).toArray j).run P w = .ok (.int .u8 ((a.getD j 0).toNat : Int)) w := fun j hj => by
    have h1 := u8s_get a j (by omega)
    simp [part, isAgg, run_underlying he, h1]
  have hpb : ∀ j, j < n → (part e (u8s b).toArray j).run P w = .ok (.int .u8 ((b.getD j 0).toNat : Int)) w := fun j hj => by
    have h1 := u8s_get b j (by omega)
    simp [part, isAgg, run_underlying he, h1]
  have hbody := run_forIn_first (P := P) (w := w) (fun j => decide (a.getD j 0 = b.getD j 0)) (fun j __s => do
            let x ← part e (u8s a).toArray j
            let y ← part e (u8s b).toArray j
            let z ← Op.equalIn (d + 1) e x y
            if z = false then pure (ForInStep.done (some false, ())) else pure (ForInStep.yield (none, ()))) (List.range' 0 n) (fun j hj => by
      have hj' : j < n := by
        have := List.mem_range'_1.1 hj; omega
      simp only [Sem.run_bind, hpa j hj', hpb j hj', Result.andThen_ok, run_equalIn_int w d e .u8 .u8 _ _ he]
      by_cases q : a.getD j 0 = b.getD j 0
      · simp only [List.getD_eq_getElem?_getD] at q
        simp [q]
      · have q2 : ¬ ((a.getD j 0).toNat : Int) = ((b.getD j 0).toNat : Int) := fun h => q (UInt8.toNat_inj.1 (by omega))
        simp only [List.getD_eq_getElem?_getD] at q q2
        simp [q, q2])
  have hall : ((List.range' 0 n).all fun j => decide (a.getD j 0 = b.getD j 0)) = decide (a = b) := by
    rw [Bool.eq_iff_iff, List.all_eq_true, decide_eq_true_iff]
    constructor
    · intro h
      refine List.ext_getElem (by omega) fun j h1 h2 => ?_
      have := h j (List.mem_range'_1.2 ⟨by omega, by omega⟩)
      simpa [h1, h2] using this
    · rintro rfl j _
      simp
  rw [hall] at hbody
  unfold Op.equalIn
  simp only [Sem.run_bind, run_underlying ht, Result.andThen_ok, sizeOf, typeInfo]
  simp [hi, hs, hbody]
  by_cases q : a = b <;> simp [q]

theorem eqFields_run {P : Program} (w : World) (d : Nat) (xs ys : Array Value) (r : TypeId → Nat → Bool) : ∀ fs : List Field,
    (∀ f ∈ fs, f.name ≠ "_" ∧ ∃ a b, (part f.type xs f.offset).run P w = .ok a w ∧ (part f.type ys f.offset).run P w = .ok b w ∧ (Op.equalIn d f.type a b).run P w = .ok (r f.type f.offset) w) →
    (Op.eqFields d xs ys fs).run P w = .ok (fs.all fun f => r f.type f.offset) w
  | [], _ => by simp [Op.eqFields]
  | f :: fs, h => by
    obtain ⟨h1, a, b, h2, h3, h4⟩ := h f (by simp)
    have ih := eqFields_run w d xs ys r fs fun g hg => h g (by simp [hg])
    simp only [Op.eqFields, h1, ne_eq, not_false_eq_true, if_true, Sem.run_bind, h2, h3, h4, Result.andThen_ok, List.all_cons]
    cases hr : r f.type f.offset
    · simp
    · simp [ih]
theorem Tryd.hashGuardH : Tryd.prog.eqGuardType Tryd.prog.depth 32 = false := by kernel_rfl
theorem Tryd.infoByteH : (Tryd.prog.info? 5).map (fun i => (i.zero, i.size, i.bytes)) = some (some (.int .u8 0), 1, 1) := by kernel_rfl
theorem hash_equal (a b : List UInt8) (ha : a.length = 32) (hb : b.length = 32) : ∀ wz, (Op.equalIn 10000 32 (.agg (u8s a).toArray) (.agg (u8s b).toArray)).run Tryd.prog wz = .ok (decide (a = b)) wz := fun w => by
  obtain ⟨i0, hi0, _, hz1, _⟩ := info_parts Tryd.infoByteH
  exact run_equal_bytes w 9998 32 5 i0 32 _ _ Tryd.underlying32 Tryd.underlying5 hi0 hz1 ha hb
end Go.Proofs.YtafgiljgefeefaaDoor
