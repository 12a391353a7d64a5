/- Slices of bytes that are held; adds of them. -/
import Derived.Test.YtiddnhnfpggomaaDoorSha8
import Derived.Test.YtiddnhnfpggomaaDoorFresh
import Derived.Laws.StructEq
namespace Go.Proofs.YtiddnhnfpggomaaDoor
open Go.RowKit
set_option linter.unusedVariables false

/-- append of whatever reads as bytes, under a guard that is met. -/
theorem wpList_append_bytes_g {P : Program} {ops : Array Oper} {rest : List Oper} {o : Oper} {a : Act} {w : World} {Q : Exit → Act → World → Prop} (hw : Region.wanted o (yielded ops a.tmps) = true) (s x : Operand) (t e : TypeId) (i : TypeInfo)
    (ho : o.op = .call { callee := .builtin .append, args := #[s, x], argTypes := #[t, t] }) (ht : P.underlying t = some (.slice e)) (hi : P.info? e = some i) (hz : i.zero = some (.int .u8 0)) (hsz : i.size = 1) (hb : i.bytes = 1)
    (base g cap : Nat) (xs more : List UInt8) (xv : Value) (hs : a.eval s = .slice (some ⟨g, 0, none⟩) xs.length cap) (hx : a.eval x = xv) (hown : w.ownsRow base e 1 (.slice (some ⟨g, 0, none⟩) xs.length cap) xs.length (u8s xs)) (hbx : Bytes w xv more) (hl : xs.length + more.length ≤ 140737488351232) (hbase : base ≤ w.heap.size)
    (h : ∀ g' cap' w', w'.ownsRow base e 1 (.slice (some ⟨g', 0, none⟩) (xs.length + more.length) cap') (xs.length + more.length) (u8s (xs ++ more)) → w.grownBy w' (some g) → (g' = g ∨ g' = w.heap.size) → wpList P ops Q rest (a.put o.dst (.slice (some ⟨g', 0, none⟩) (xs.length + more.length) cap')) w') :
    wpList P ops Q (o :: rest) a w := by
  obtain ⟨g', cap', w', h1, h2, h3, h4⟩ := run_append_bytes (P := P) w t o.type e i ht hi hz hsz hb base g cap xs more xv hown hbx hl hbase
  refine wpList_step fun K hK => ?_
  rw [if_pos hw]
  unfold Oper.wp execOp
  simp only [ho, resolve, invoke, builtin, Sem.run_bind, Sem.run_pure, Result.andThen_ok, List.map_toArray, List.map_cons, List.map_nil, hs, hx, h1]
  exact hK _ _ (h g' cap' w' h2 h3 h4)

theorem nums_pos {w : World} (h : Nums w) : 0 < w.heap.size := World.block_lt_of_cell? w _ (h 0 (by omega))

/-- A slice of bytes as what reads so in every later world. -/
def Held (w : World) (ao : Option Addr) (L cap : Nat) (bs : List UInt8) : Prop := Bytes w (.slice ao L cap) bs ∧ bs.length = L ∧ L ≤ cap ∧ cap ≤ 9223372036854775807
theorem Held.far {S : Nat → Prop} {w w' : World} {ao : Option Addr} {L cap : Nat} {bs : List UInt8} (h : Held w ao L cap bs) (k : Keeps S w w') (hs : ∀ j, j < w.heap.size → ¬ S j) : Held w' ao L cap bs :=
  ⟨h.1.far h.2.1.symm k hs, h.2⟩

theorem add_held (B : Nat) (h : HS) (bs : List UInt8) (ao : Option Addr) (L cap : Nat) (w : World) (hh : HasherAt w B h) (hN : Nums w) {w0 : World} (hb : Held w0 ao L cap bs) (hk : Same w0 w) (hB : w0.heap.size ≤ B) (hs : h.n + L ≤ 1000000) :
    Calls Tryd.prog 39 #[.pointer (some ⟨B, 0, none⟩), .slice ao L cap] w fun e w' => e = .returned (.tuple #[]) ∧ HasherAt w' B (feed h bs) ∧ Keeps (fun k => k = B) w w' :=
  add_any B h bs ao L cap w hh hN (fun w' hk' => (hb.far (hk.any.trans hk' (fun j _ e => e)) (fun j hj e => by omega)).1) hb.2.1 hb.2.2.1 hb.2.2.2 hs

theorem Tryd.hashGuard : Tryd.prog.eqGuardType Tryd.prog.depth 32 = false := by kernel_rfl
/-- One array compared with itself. -/
theorem wpList_eql_same {P : Program} {ops : Array Oper} {rest : List Oper} {o : Oper} {a : Act} {w : World} {Q : Exit → Act → World → Prop} (hw : Region.wanted o (yielded ops a.tmps) = true) (s x : Operand) (t r : TypeId)
    (ho : o.op = .binOp .eql t s x r) (X : Array Value) (hs : a.eval s = .agg X) (hx : a.eval x = .agg X) (hm : P.eqGuardType P.depth t = false) (hr : ∀ wz, (Op.equalIn 10000 t (.agg X) (.agg X)).run P wz = .ok true wz)
    (hK : wpList P ops Q rest (a.put o.dst (.bool true)) w) : wpList P ops Q (o :: rest) a w := by
  refine wpList_step fun K hK' => ?_
  rw [if_pos hw]
  unfold Oper.wp execOp
  simp only [ho, hs, hx, Sem.run_bind, Sem.run_pure, run_eqGuard_agg w .eql t s x X X hm, Result.andThen_ok, run_eql_struct, hr]
  exact hK' _ _ hK
theorem wpList_neq_same {P : Program} {ops : Array Oper} {rest : List Oper} {o : Oper} {a : Act} {w : World} {Q : Exit → Act → World → Prop} (hw : Region.wanted o (yielded ops a.tmps) = true) (s x : Operand) (t r : TypeId)
    (ho : o.op = .binOp .neq t s x r) (X : Array Value) (hs : a.eval s = .agg X) (hx : a.eval x = .agg X) (hm : P.eqGuardType P.depth t = false) (hr : ∀ wz, (Op.equalIn 10000 t (.agg X) (.agg X)).run P wz = .ok true wz)
    (hK : wpList P ops Q rest (a.put o.dst (.bool false)) w) : wpList P ops Q (o :: rest) a w := by
  refine wpList_step fun K hK' => ?_
  rw [if_pos hw]
  unfold Oper.wp execOp
  simp only [ho, hs, hx, Sem.run_bind, Sem.run_pure, run_eqGuard_agg w .neq t s x X X hm, Result.andThen_ok, run_neq_struct, hr, Bool.not_true]
  exact hK' _ _ hK
theorem Tryd.hashSame (bs : List UInt8) (hl : bs.length = 32) : ∀ wz, (Op.equalIn 10000 32 (.agg (u8s bs).toArray) (.agg (u8s bs).toArray)).run Tryd.prog wz = .ok true wz := fun wz => by
  obtain ⟨i0, hi0, _, hz1, _⟩ := info_parts (show (Tryd.prog.info? 5).map (fun i => (i.zero, i.size, i.bytes)) = some (some (.int .u8 0), 1, 1) from by kernel_rfl)
  exact run_equal_refl wz 9998 32 5 i0 32 _ Tryd.underlying32 Tryd.underlying5 hi0 hz1 hl

end Go.Proofs.YtiddnhnfpggomaaDoor
