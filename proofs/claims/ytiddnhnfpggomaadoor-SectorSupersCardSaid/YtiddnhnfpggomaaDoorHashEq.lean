/- Comparison of arrays of bytes, like or unlike; of what a node knows of itself. -/
import Derived.Test.YtiddnhnfpggomaaDoorSha10
import Derived.Test.YtiddnhnfpggomaaDoorSec4
namespace Go.Proofs.YtiddnhnfpggomaaDoor
open Go.RowKit
set_option linter.unusedVariables false

/-- Two values are compared, whatever comes out. -/
theorem wpList_eql_is {P : Program} {ops : Array Oper} {rest : List Oper} {o : Oper} {a : Act} {w : World} {Q : Exit → Act → World → Prop} (hw : Region.wanted o (yielded ops a.tmps) = true) (s x : Operand) (t r : TypeId)
    (ho : o.op = .binOp .eql t s x r) (X Y : Array Value) (b : Bool) (hs : a.eval s = .agg X) (hx : a.eval x = .agg Y) (hm : P.eqGuardType P.depth t = false) (hr : ∀ wz, (Op.equalIn 10000 t (.agg X) (.agg Y)).run P wz = .ok b wz)
    (hK : wpList P ops Q rest (a.put o.dst (.bool b)) w) : wpList P ops Q (o :: rest) a w := by
  refine wpList_step fun K hK' => ?_
  rw [if_pos hw]
  unfold Oper.wp execOp
  simp only [ho, hs, hx, Sem.run_bind, Sem.run_pure, run_eqGuard_agg w .eql t s x X Y hm, Result.andThen_ok, run_eql_struct, hr]
  exact hK' _ _ hK
theorem wpList_neq_is {P : Program} {ops : Array Oper} {rest : List Oper} {o : Oper} {a : Act} {w : World} {Q : Exit → Act → World → Prop} (hw : Region.wanted o (yielded ops a.tmps) = true) (s x : Operand) (t r : TypeId)
    (ho : o.op = .binOp .neq t s x r) (X Y : Array Value) (b : Bool) (hs : a.eval s = .agg X) (hx : a.eval x = .agg Y) (hm : P.eqGuardType P.depth t = false) (hr : ∀ wz, (Op.equalIn 10000 t (.agg X) (.agg Y)).run P wz = .ok b wz)
    (hK : wpList P ops Q rest (a.put o.dst (.bool (!b))) w) : wpList P ops Q (o :: rest) a w := by
  refine wpList_step fun K hK' => ?_
  rw [if_pos hw]
  unfold Oper.wp execOp
  simp only [ho, hs, hx, Sem.run_bind, Sem.run_pure, run_eqGuard_agg w .neq t s x X Y hm, Result.andThen_ok, run_neq_struct, hr]
  exact hK' _ _ hK

theorem exec_eql_is {P : Program} {o : Oper} {a : Act} {w : World} (s x : Operand) (t r : TypeId) (ho : o.op = .binOp .eql t s x r) (X Y : Array Value) (b : Bool) (hs : a.eval s = .agg X) (hx : a.eval x = .agg Y) (hm : P.eqGuardType P.depth t = false)
    (hr : ∀ wz, (Op.equalIn 10000 t (.agg X) (.agg Y)).run P wz = .ok b wz) : (execOp a.eval o).run P w = .ok (.value (.bool b)) w := by
  unfold execOp
  simp only [ho, hs, hx, Sem.run_bind, Sem.run_pure, run_eqGuard_agg w .eql t s x X Y hm, Result.andThen_ok, run_eql_struct, hr]
theorem run_forIn_first {P : Program} {w : World} (g : Nat → Bool) (f : Nat → Option Bool × Unit → Sem (ForInStep (Option Bool × Unit))) : ∀ (l : List Nat),
    (∀ i ∈ l, (f i (none, ())).run P w = .ok (if g i then .yield (none, ()) else .done (some false, ())) w) → (forIn l (none, ()) f).run P w = .ok (if l.all g then (none, ()) else (some false, ())) w
  | [], _ => by simp
  | i :: l, h => by
    rw [List.forIn_cons, Sem.run_bind, h i (by simp), Result.andThen_ok]
    cases hg : g i
    · simp [hg]
    · simp only [if_true, List.all_cons, hg, Bool.true_and]
      exact run_forIn_first g f l fun j hj => h j (by simp [hj])

theorem run_equal_bytes {P : Program} (w : World) (d : Nat) (t e : TypeId) (i : TypeInfo) (n : Nat) (a b : List UInt8) (ht : P.underlying t = some (.array n e)) (he : P.underlying e = some (.int .u8)) (hi : P.info? e = some i) (hs : i.size = 1) (ha : a.length = n) (hb : b.length = n) :
    (Op.equalIn (d + 2) t (.agg (u8s a).toArray) (.agg (u8s b).toArray)).run P w = .ok (decide (a = b)) w := by
  have hpa : ∀ j, j < n → (part e (u8s a).toArray j).run P w = .ok (.int .u8 ((a.getD j 0).toNat : Int)) w := fun j hj => by
    have h1 := u8s_get a j (by omega)
    simp [part, isAgg, run_underlying he, h1]
  have hpb : ∀ j, j < n → (part e (u8s b).toArray j).run P w = .ok (.int .u8 ((b.getD j 0).toNat : Int)) w := fun j hj => by
    have h1 := u8s_get b j (by omega)
    simp [part, isAgg, run_underlying he, h1]
  have hbody := run_forIn_first (P := P) (w := w) (fun j => decide (a.getD j 0 = b.getD j 0)) (fun j __s => do
            let x ← part e (u8s a).toArray j
            let y ← part e (u8s b).toArray j
            let z ← Op.equalIn (d + 1) e x y
            if z = false then pure (ForInStep.done (some false, ())) else pure (ForInStep.yield (none, ()))) (List.range' 0 n) (fun j hj => by
      have hj' : j < n := by
        have := List.mem_range'_1.1 hj; omega
      simp only [Sem.run_bind, hpa j hj', hpb j hj', Result.andThen_ok, run_equalIn_int w d e .u8 .u8 _ _ he]
      by_cases q : a.getD j 0 = b.getD j 0
      · simp only [List.getD_eq_getElem?_getD] at q
        simp [q]
      · have q2 : ¬ ((a.getD j 0).toNat : Int) = ((b.getD j 0).toNat : Int) := fun h => q (UInt8.toNat_inj.1 (by omega))
        simp only [List.getD_eq_getElem?_getD] at q q2
        simp [q, q2])
  have hall : ((List.range' 0 n).all fun j => decide (a.getD j 0 = b.getD j 0)) = decide (a = b) := by
    rw [Bool.eq_iff_iff, List.all_eq_true, decide_eq_true_iff]
    constructor
    · intro h
      refine List.ext_getElem (by omega) fun j h1 h2 => ?_
      have := h j (List.mem_range'_1.2 ⟨by omega, by omega⟩)
      simpa [h1, h2] using this
    · rintro rfl j _
      simp
  rw [hall] at hbody
  unfold Op.equalIn
  simp only [Sem.run_bind, run_underlying ht, Result.andThen_ok, sizeOf, typeInfo]
  simp [hi, hs, hbody]
  by_cases q : a = b <;> simp [q]

theorem eqFields_run {P : Program} (w : World) (d : Nat) (xs ys : Array Value) (r : TypeId → Nat → Bool) : ∀ fs : List Field,
    (∀ f ∈ fs, f.name ≠ "_" ∧ ∃ a b, (part f.type xs f.offset).run P w = .ok a w ∧ (part f.type ys f.offset).run P w = .ok b w ∧ (Op.equalIn d f.type a b).run P w = .ok (r f.type f.offset) w) →
    (Op.eqFields d xs ys fs).run P w = .ok (fs.all fun f => r f.type f.offset) w
  | [], _ => by simp [Op.eqFields]
  | f :: fs, h => by
    obtain ⟨h1, a, b, h2, h3, h4⟩ := h f (by simp)
    have ih := eqFields_run w d xs ys r fs fun g hg => h g (by simp [hg])
    simp only [Op.eqFields, h1, ne_eq, not_false_eq_true, if_true, Sem.run_bind, h2, h3, h4, Result.andThen_ok, List.all_cons]
    cases hr : r f.type f.offset
    · simp
    · simp [ih]

theorem Tryd.supGuard : Tryd.prog.eqGuardType Tryd.prog.depth 34 = false := by kernel_rfl
theorem Tryd.supFields : (Tryd.prog.fieldsOf 34).toList.map (fun f => (f.name != "_", f.type, f.offset)) = [(true, 30, 0), (true, 30, 1), (true, 30, 2), (true, 30, 3), (true, 30, 4), (true, 32, 5)] := by kernel_rfl
theorem Tryd.supIs : Tryd.prog.underlying 34 = some (.struct (Tryd.prog.fieldsOf 34)) := by kernel_rfl
theorem Tryd.supIn : Tryd.prog.stoodInHeld 34 = false := by kernel_rfl
theorem Tryd.hash32 : (Tryd.prog.info? 32).map (·.size) = some 32 := by kernel_rfl

theorem part_num (s : Sup) (k : Nat) (h : k < 5) (w : World) : (part 30 s.cells.toArray k).run Tryd.prog w = .ok (.int .u64 (s.nums.getD k 0 : Nat)) w := by
  have h1 := nums_cell s k h
  have h2 := Tryd.underlying30
  simp [part, isAgg, run_underlying h2, h1]
theorem part_head (s : Sup) (h : s.head.length = 32) (w : World) : (part 32 s.cells.toArray 5).run Tryd.prog w = .ok (.agg (u8s s.head).toArray) w := by
  have h2 := Tryd.underlying32
  obtain ⟨i, hi, hs⟩ : ∃ i, Tryd.prog.info? 32 = some i ∧ i.size = 32 := by
    have h3 := Tryd.hash32
    cases hq : Tryd.prog.info? 32 with
    | none => rw [hq] at h3; simp at h3
    | some i => rw [hq] at h3; exact ⟨i, rfl, by simpa using h3⟩
  have he : List.take 32 (List.drop 5 s.cells) = u8s s.head := by
    have hl : (u8s s.head).length = 32 := by rw [u8s_length]; exact h
    unfold Sup.cells
    rw [List.drop_append_of_le_length (by simp), List.drop_of_length_le (by simp), List.nil_append, List.take_of_length_le (by omega)]
  simp [part, isAgg, run_underlying h2, sizeOf, typeInfo, hi, hs, he]

theorem sup_equal (s t : Sup) (hs : s.head.length = 32) (ht : t.head.length = 32) : ∀ wz, (Op.equalIn 10000 34 (.agg s.cells.toArray) (.agg t.cells.toArray)).run Tryd.prog wz = .ok (decide (s.nums = t.nums ∧ s.head = t.head)) wz := fun w => by
  obtain ⟨i0, hi0, _, hz1, _⟩ := info_parts (show (Tryd.prog.info? 5).map (fun i => (i.zero, i.size, i.bytes)) = some (some (.int .u8 0), 1, 1) from by kernel_rfl)
  rw [run_equalIn_struct w 9999 _ _ _ Tryd.supIs Tryd.supIn]
  have hmem : ∀ f ∈ (Tryd.prog.fieldsOf 34).toList, (f.name != "_", f.type, f.offset) ∈ [(true, 30, 0), (true, 30, 1), (true, 30, 2), (true, 30, 3), (true, 30, 4), (true, 32, 5)] := fun f hf => by
    rw [← Tryd.supFields]
    exact List.mem_map_of_mem hf
  rw [eqFields_run w 9999 _ _ (fun _ o => if o = 5 then decide (s.head = t.head) else decide (s.nums.getD o 0 = t.nums.getD o 0)) _ (fun f hf => ?_)]
  · have hmap : ((Tryd.prog.fieldsOf 34).toList.all fun f => if f.offset = 5 then decide (s.head = t.head) else decide (s.nums.getD f.offset 0 = t.nums.getD f.offset 0)) = (((Tryd.prog.fieldsOf 34).toList.map (fun f => (f.name != "_", f.type, f.offset))).all fun p => if p.2.2 = 5 then decide (s.head = t.head) else decide (s.nums.getD p.2.2 0 = t.nums.getD p.2.2 0)) := by
      rw [List.all_map]; rfl
    rw [hmap, Tryd.supFields]
    congr 1
    rw [Bool.eq_iff_iff]
    simp [Sup.nums, and_assoc]
  · have h := hmem f hf
    simp only [List.mem_cons, Prod.mk.injEq, List.not_mem_nil, or_false] at h
    have num : ∀ k, k < 5 → (Op.equalIn 9999 30 (.int .u64 (s.nums.getD k 0 : Nat)) (.int .u64 (t.nums.getD k 0 : Nat))).run Tryd.prog w = .ok (decide (s.nums.getD k 0 = t.nums.getD k 0)) w := fun k hk => by
      rw [run_equalIn_int w 9998 30 .u64 .u64 _ _ Tryd.underlying30]
      congr 1
      rw [Bool.eq_iff_iff]
      simp
      omega
    rcases h with ⟨h1, h2, h3⟩ | ⟨h1, h2, h3⟩ | ⟨h1, h2, h3⟩ | ⟨h1, h2, h3⟩ | ⟨h1, h2, h3⟩ | ⟨h1, h2, h3⟩
    all_goals
      refine ⟨by simpa using h1, ?_⟩
      rw [h2, h3]
    · exact ⟨_, _, part_num s 0 (by omega) w, part_num t 0 (by omega) w, num 0 (by omega)⟩
    · exact ⟨_, _, part_num s 1 (by omega) w, part_num t 1 (by omega) w, num 1 (by omega)⟩
    · exact ⟨_, _, part_num s 2 (by omega) w, part_num t 2 (by omega) w, num 2 (by omega)⟩
    · exact ⟨_, _, part_num s 3 (by omega) w, part_num t 3 (by omega) w, num 3 (by omega)⟩
    · exact ⟨_, _, part_num s 4 (by omega) w, part_num t 4 (by omega) w, num 4 (by omega)⟩
    · exact ⟨_, _, part_head s hs w, part_head t ht w, run_equal_bytes w 9997 32 5 i0 32 _ _ Tryd.underlying32 Tryd.underlying5 hi0 hz1 hs ht⟩

end Go.Proofs.YtiddnhnfpggomaaDoor
