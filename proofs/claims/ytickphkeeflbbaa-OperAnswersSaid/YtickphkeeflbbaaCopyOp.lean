/- A copy of an operation. -/
import Derived.Test.YtickphkeeflbbaaOpR2
import Derived.Test.YtickphkeeflbbaaFresh
import Derived.Test.YtickphkeeflbbaaRow
import Derived.Test.YtickphkeeflbbaaPlan3
namespace Go.Proofs.Ytickphkeeflbbaa
open Go.RowKit
set_option linter.unusedVariables false

/-- A load whose outcome is known. -/
theorem wpList_load_one {P : Program} {ops : Array Oper} {rest : List Oper} {o : Oper} {a : Act} {w : World} {Q : Exit → Act → World → Prop} (hgd : o.guard = none) (ty : TypeId) (x : Operand) (ho : o.op = .load ty x) (p : Addr) (hx : a.eval x = .pointer (some p)) (v : Value) (hv : (loadVar ty p).run P w = .ok v w)
    (h : wpList P ops Q rest (a.put o.dst v) w) : wpList P ops Q (o :: rest) a w := by
  refine wpList_plain hgd fun K hK => ?_
  unfold Oper.wp execOp
  simp only [ho, hx, Instr.loadAt, Instr.sureAddr, Sem.run_bind, Sem.run_pure, Result.andThen_ok, hv]
  exact hK _ _ h

set_option maxRecDepth 100000 in
set_option maxHeartbeats 3200000 in
theorem copyOp_any (k off n : Int) (p t : ByteArray) (ao : Option Addr) (cap : Nat) (ds : List UInt8) (w : World) (hx : Bytes w (.slice ao ds.length cap) ds) (hl : ds.length ≤ 140737488351232) :
    Calls Try.prog 9 #[opVal k off n p t (.slice ao ds.length cap)] w fun e w' => Same w w' ∧ ∃ g c, e = .returned (opVal k off n p t (.slice (some ⟨g, 0, none⟩) ds.length c)) ∧ w'.ownsRow w.heap.size 5 1 (.slice (some ⟨g, 0, none⟩) ds.length c) ds.length (u8s ds) := by
  obtain ⟨i0, hi0, hz0, hz1, hz2⟩ := info_parts Try.info5
  have hzs := Try.zeroOp
  have hx3 : Hid (Bytes w (.slice ao ds.length cap) ds) := Lib.hid hx
  obtain ⟨w3, hw3⟩ : ∃ w3, (((w.alloc (.cells #[.int .i64 k, .string p, .string t, .int .i64 off, .int .i64 n, .slice ao ds.length cap] 25)).alloc (.cells op0.toArray 25)).alloc (.cells op0.toArray 25)).setRow (w.heap.size + 1 + 1) (opCells k off n p t (.slice none 0 0)).toArray = w3 := ⟨_, rfl⟩
  have HN : Hid ((((w.alloc (.cells #[.int .i64 k, .string p, .string t, .int .i64 off, .int .i64 n, .slice ao ds.length cap] 25)).alloc (.cells op0.toArray 25)).alloc (.cells op0.toArray 25)).heap[w.heap.size + 1 + 1]? = some (.cells op0.toArray 25 (0, 0))) := Lib.hid (by
    have := heap_alloc_new ((w.alloc (.cells #[.int .i64 k, .string p, .string t, .int .i64 off, .int .i64 n, .slice ao ds.length cap] 25)).alloc (.cells op0.toArray 25)) (.cells op0.toArray 25)
    simpa using this)
  have kA : Same w ((w.alloc (.cells #[.int .i64 k, .string p, .string t, .int .i64 off, .int .i64 n, .slice ao ds.length cap] 25)).alloc (.cells op0.toArray 25)) := ((Keeps.refl _ _).alloc _).alloc _
  have k3 : Keeps (fun q => q = w.heap.size + 1 + 1) ((w.alloc (.cells #[.int .i64 k, .string p, .string t, .int .i64 off, .int .i64 n, .slice ao ds.length cap] 25)).alloc (.cells op0.toArray 25)) w3 := by rw [← hw3]; exact ((Keeps.refl _ _).alloc _).setRow _ _ (.inr rfl)
  have HK3 : Hid (Same w w3) := Lib.hid (kA.trans k3 (fun q hq e => by omega))
  have hR : Whole ((w.alloc (.cells #[.int .i64 k, .string p, .string t, .int .i64 off, .int .i64 n, .slice ao ds.length cap] 25)).alloc (.cells op0.toArray 25)) (w.heap.size + 1) 25 op0 := by
    have := heap_alloc_new (w.alloc (.cells #[.int .i64 k, .string p, .string t, .int .i64 off, .int .i64 n, .slice ao ds.length cap] 25)) (.cells op0.toArray 25)
    simpa [Whole] using this
  have HR3 : Hid (Whole w3 (w.heap.size + 1) 25 op0) := Lib.hid (hR.keep k3 (by omega))
  have hB : ((w.alloc (.cells #[.int .i64 k, .string p, .string t, .int .i64 off, .int .i64 n, .slice ao ds.length cap] 25)).alloc (.cells op0.toArray 25)).heap[w.heap.size]? = some (.cells #[.int .i64 k, .string p, .string t, .int .i64 off, .int .i64 n, .slice ao ds.length cap] 25 (0, 0)) := ((Keeps.refl (fun _ => False) _).alloc _).obj (heap_alloc_new w _) (fun e => e)
  have HB3 : Hid (w3.heap[w.heap.size]? = some (.cells #[.int .i64 k, .string p, .string t, .int .i64 off, .int .i64 n, .slice ao ds.length cap] 25 (0, 0))) := Lib.hid (k3.obj hB (by omega))
  have HG3 : Hid (Whole w3 (w.heap.size + 1 + 1) 25 (opCells k off n p t (.slice none 0 0))) := Lib.hid (by rw [← hw3]; exact Whole.row (cs := op0) HN.out)
  have HIO := Lib.hid Try.sizeOp
  have HW3 := Lib.hid hw3
  obtain ⟨a0, a1, a2, a3, a4, a5⟩ := cell_of_six HB3.out
  obtain ⟨b0, b1, b2, b3, b4, b5⟩ := cell_of_six (((Keeps.refl (fun _ => False) w3).alloc (.cells #[] 5)).obj HB3.out (fun e => e))
  have HLD : Hid ((loadVar 23 ⟨w.heap.size, 5, none⟩).run Try.prog (w3.alloc (.cells #[] 5)) = .ok (.slice ao ds.length cap) (w3.alloc (.cells #[] 5))) := Lib.hid (by go_simp)
  have hlt3 : w.heap.size < w3.heap.size := lt_of_block HB3.out
  have HOE := Lib.hid (own_empty w3 5)
  have HBE : Hid (Bytes (w3.alloc (.cells #[] 5)) (.slice ao ds.length cap) ds) := Lib.hid (hx.same (HK3.out.alloc _))
  clear hw3 kA k3 hR hB hx
  go_enter Try.func9, Try.ntmps9
  go_wp2_with (first
    | (refine wpList_store_row (by rfl) 25 _ _ (by rfl) (w.heap.size + 1 + 1) (opCells k off n p t (.slice none 0 0)).toArray (by rfl) (by rfl) 25 op0.toArray HN.out HIO.out rfl (op_all _ _ _ _ _ _ _ _) ?_; rw [HW3.out])
    | (refine wpList_load_one (by rfl) 23 _ (by rfl) ⟨w.heap.size, 5, none⟩ (by rfl) (.slice ao ds.length cap) HLD.out ?_)
    | (at_builtin; refine wpList_append_bytes (by rfl) _ _ 23 5 i0 (by rfl) Try.underlying23 hi0 hz0 hz1 hz2 w3.heap.size w3.heap.size 0 [] ds _ (by rfl) (by rfl) HOE.out HBE.out (by simp; omega) (by simp) ?_))
  intro g4 c4 w4 ho4 hg4 hat4
  try simp only [List.length_nil, Nat.zero_add, List.nil_append] at ho4
  try simp only [List.length_nil, Nat.zero_add]
  have hk34 : Same w3 w4 := ((Keeps.refl (fun _ => False) w3).alloc _).grown hg4 (fun k e hk => by simp only [Option.some.injEq] at e; omega)
  have hg4l := (ho4.lt g4 rfl).1
  have hGl := HG3.out.lt
  have HK4 : Hid (Same w w4) := Lib.hid (HK3.out.trans hk34 (fun _ _ e => e))
  have HR4 := Lib.hid (HR3.out.keep hk34 (fun e => e))
  have HG4 := Lib.hid (HG3.out.keep hk34 (fun e => e))
  have f5 := HG4.out.cell (i := 5) rfl
  have z5 := HG4.out.free 5
  obtain ⟨w5, hw5⟩ : ∃ w5, w4.setCell ⟨w.heap.size + 1 + 1, 5, none⟩ (.slice (some ⟨g4, 0, none⟩) ds.length c4) = w5 := ⟨_, rfl⟩
  have HG5 : Hid (Whole w5 (w.heap.size + 1 + 1) 25 (opCells k off n p t (.slice (some ⟨g4, 0, none⟩) ds.length c4))) := Lib.hid (by rw [← hw5]; exact HG4.out.set 5 _)
  have HR5 : Hid (Whole w5 (w.heap.size + 1) 25 op0) := Lib.hid (by rw [← hw5]; exact HR4.out.far _ (by simp only; omega) _)
  have k5 : Keeps (fun q => w.heap.size ≤ q ∧ q < w3.heap.size) w4 (w5.setRow (w.heap.size + 1) (opCells k off n p t (.slice (some ⟨g4, 0, none⟩) ds.length c4)).toArray) := by rw [← hw5]; exact ((Keeps.refl _ _).setCell _ _ (.inr (by simp only; omega))).setRow _ _ (.inr (by omega))
  have HEND : Hid (Same w (w5.setRow (w.heap.size + 1) (opCells k off n p t (.slice (some ⟨g4, 0, none⟩) ds.length c4)).toArray) ∧ Whole (w5.setRow (w.heap.size + 1) (opCells k off n p t (.slice (some ⟨g4, 0, none⟩) ds.length c4)).toArray) (w.heap.size + 1) 25 (opCells k off n p t (.slice (some ⟨g4, 0, none⟩) ds.length c4)) ∧
      (w5.setRow (w.heap.size + 1) (opCells k off n p t (.slice (some ⟨g4, 0, none⟩) ds.length c4)).toArray).ownsRow w.heap.size 5 1 (.slice (some ⟨g4, 0, none⟩) ds.length c4) ds.length (u8s ds)) := Lib.hid
    ⟨HK4.out.trans k5 (fun q hq e => by omega), HR5.out.row, own_base (own_keeps k5 ho4 (fun q e hs => by have := (ho4.lt q e).1; omega)) (by omega)⟩
  clear ho4 hg4 hat4 hk34 k5 HOE HBE HN HG3 HR3 HB3 HK3 HW3 a0 a1 a2 a3 a4 a5 b0 b1 b2 b3 b4 b5
  go_wp2_with (first
    | (refine wpList_load_row (by rfl) 25 _ (by rfl) (w.heap.size + 1 + 1) (by rfl) 25 (opCells k off n p t (.slice (some ⟨g4, 0, none⟩) ds.length c4)).toArray (0, 0) _ HG5.out Try.underlying25 rfl HIO.out ?_)
    | (refine wpList_store_row (by rfl) 25 _ _ (by rfl) (w.heap.size + 1) (opCells k off n p t (.slice (some ⟨g4, 0, none⟩) ds.length c4)).toArray (by rfl) (by rfl) 25 op0.toArray HR5.out HIO.out rfl (op_all _ _ _ _ _ _ _ _) ?_))
  refine bodyPost_ret (results_cell_row rfl _ _ (w.heap.size + 1) 25 _ (0, 0) _ (by rfl) HEND.out.2.1 Try.underlying25 rfl HIO.out) rfl
    ⟨HEND.out.1, g4, c4, rfl, HEND.out.2.2⟩
end Go.Proofs.Ytickphkeeflbbaa
