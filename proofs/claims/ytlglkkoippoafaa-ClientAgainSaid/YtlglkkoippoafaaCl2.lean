/- client.New, Waiting, Call. -/
import Derived.Test.YtlglkkoippoafaaCl1
import Derived.Test.YtlglkkoippoafaaOp2
namespace Go.Proofs.Ytlglkkoippoafaa
open Go.RowKit
set_option linter.unusedVariables false

/-- A client. -/
structure Cl where
  id : Int
  nr : Nat
  k : Int
  off : Int
  n : Int
  p : ByteArray
  t : ByteArray
  xo : Option Addr
  xc : Nat
  ds : List UInt8
  wt : Bool
def Cl.op (c : Cl) : List Value := opL c.k c.off c.n c.p c.t (.slice c.xo c.ds.length c.xc)
def Cl.call (c : Cl) : List Value := callL c.id c.nr c.k c.off c.n c.p c.t (.slice c.xo c.ds.length c.xc)
def Cl.cells (c : Cl) : List Value := [.int .i64 c.id, .int .u64 c.nr, .int .i64 c.k, .string c.p, .string c.t, .int .i64 c.off, .int .i64 c.n, .slice c.xo c.ds.length c.xc, .bool c.wt]
structure ClAt (w : World) (B : Nat) (c : Cl) : Prop where
  wh : Whole w B 66 c.cells
  rd : Reads w (.slice c.xo c.ds.length c.xc) c.ds
  far : FarFrom (B + 1) (.slice c.xo c.ds.length c.xc) c.ds
  nr : c.nr ≤ 1000000
  len : c.ds.length ≤ 64
theorem ClAt.same {w w' : World} {B : Nat} {c : Cl} (h : ClAt w B c) (k : Same w w') : ClAt w' B c := ⟨h.wh.keep k (fun e => e), h.rd.same k, h.far, h.nr, h.len⟩
def cl0 (id : Int) : Cl := ⟨id, 0, 0, 0, 0, ⟨#[]⟩, ⟨#[]⟩, none, 0, [], false⟩

set_option maxRecDepth 100000 in
set_option maxHeartbeats 3200000 in
theorem new_any (id : Int) (h0 : 0 ≤ id) (h1 : id ≤ 3) (w : World) : Calls Try.prog 7 #[.int .i64 id] w fun e w' => ∃ B, e = .returned (.tuple #[.pointer (some ⟨B, 0, none⟩), .int .i64 0]) ∧ ClAt w' B (cl0 id) ∧ w.heap.size ≤ B ∧ Same w w' := by
  have q1 : ¬ id < 0 := by omega
  have q2 : ¬ (4 : Int) ≤ id := by omega
  clear h0 h1
  go_enter Try.func7, Try.ntmps7
  go_wp2_with (first
    | (refine wpList_buildTo (by rfl) 38 _ (by rfl) _ (by rfl) (callL id 0 0 0 0 ⟨#[]⟩ ⟨#[]⟩ (.slice none 0 0)).toArray (by kernel_rfl) ?_)
    | (refine wpList_buildTo (by rfl) 66 _ (by rfl) _ (by rfl) (cl0 id).cells.toArray (by kernel_rfl) ?_))
  go_ret2
  exact ⟨w.heap.size, rfl, ⟨heap_alloc_new w _, Reads.nil _ _ _, (fun a n c e => by cases e), by simp [cl0], by simp [cl0]⟩, Nat.le_refl _, (Keeps.refl _ _).alloc _⟩

set_option maxRecDepth 100000 in
set_option maxHeartbeats 3200000 in
theorem waiting_any (B : Nat) (c : Cl) (w : World) (h : ClAt w B c) : Calls Try.prog 19 #[.pointer (some ⟨B, 0, none⟩)] w fun e w' => e = .returned (.bool c.wt) ∧ Same w w' := by
  have b8 : w.cell? ⟨B, 8, none⟩ = some (.bool c.wt) := h.wh.cell (i := 8) rfl
  clear h
  go_enter Try.func19, Try.ntmps19
  go_wp2
  go_ret
  exact ⟨rfl, Keeps.refl _ _⟩

set_option maxRecDepth 100000 in
set_option maxHeartbeats 3200000 in
theorem call_busy (B : Nat) (c : Cl) (k off n : Int) (p t : ByteArray) (x : Value) (w : World) (h : ClAt w B c) (hw : c.wt = true) :
    Calls Try.prog 11 #[.pointer (some ⟨B, 0, none⟩), .agg (opL k off n p t x).toArray] w fun e w' => e = .returned (.tuple #[.int .u64 0, .int .i64 261]) ∧ Same w w' := by
  obtain ⟨w1, hw1⟩ : ∃ w1, w.alloc (.cells (opL k off n p t x).toArray 32) = w1 := ⟨_, rfl⟩
  have HK : Hid (Same w w1) := Lib.hid (by rw [← hw1]; exact (Keeps.refl _ _).alloc _)
  have b8 : w1.cell? ⟨B, 8, none⟩ = some (.bool true) := by
    have := (h.same HK.out).wh.cell (i := 8) rfl
    rwa [hw] at this
  clear h
  go_enter Try.func11, Try.ntmps11
  go_wp2
  go_ret2
  exact ⟨rfl, HK.out⟩

set_option maxRecDepth 100000 in
set_option maxHeartbeats 3200000 in
theorem call_wrong (B : Nat) (c : Cl) (k off n : Int) (p t : ByteArray) (x : Value) (ds : List UInt8) (w : World) (h : ClAt w B c) (hw : c.wt = false) (hx : Reads w x ds) (hr : ¬ OpRight k off n p t ds.length) :
    Calls Try.prog 11 #[.pointer (some ⟨B, 0, none⟩), .agg (opL k off n p t x).toArray] w fun e w' => e = .returned (.tuple #[.int .u64 0, .int .i64 1]) ∧ Same w w' := by
  obtain ⟨xo, xc, rfl, _⟩ := id hx
  obtain ⟨w1, hw1⟩ : ∃ w1, w.alloc (.cells (opL k off n p t (.slice xo ds.length xc)).toArray 32) = w1 := ⟨_, rfl⟩
  have HK : Hid (Same w w1) := Lib.hid (by rw [← hw1]; exact (Keeps.refl _ _).alloc _)
  have HO : Hid (w1.heap[w.heap.size]? = some (.cells (opL k off n p t (.slice xo ds.length xc)).toArray 32 (0, 0))) := Lib.hid (by rw [← hw1]; exact heap_alloc_new w _)
  have b8 : w1.cell? ⟨B, 8, none⟩ = some (.bool false) := by
    have := (h.same HK.out).wh.cell (i := 8) rfl
    rwa [hw] at this
  have HW : Hid (Calls Try.prog 20 #[.agg (opL k off n p t (.slice xo ds.length xc)).toArray] w1 fun e w' => e = .returned (.tuple #[.slice none 0 0, .int .i64 1]) ∧ Same w1 w') := Lib.hid (write_no k off n p t xo ds.length xc w1 hr)
  clear h hx hr
  go_enter Try.func11, Try.ntmps11
  go_wp2_with (refine wpList_load_row (by rfl) 32 _ (by rfl) w.heap.size (by rfl) 32 (opL k off n p t (.slice xo ds.length xc)).toArray (0, 0) _ HO.out Try.underlying32 rfl (by exact Try.sizeOpW) ?_)
  ((with_reducible refine (HW.out).mono ?_); rintro e w2 ⟨rfl, hk2⟩)
  have HK2 := Lib.hid (HK.out.trans hk2 (fun _ _ e => e))
  clear hk2
  go_wp2
  go_ret2
  exact ⟨rfl, HK2.out⟩

/-- A client that asks for an operation. -/
def Cl.asks (c : Cl) (k off n : Int) (p t : ByteArray) (xo : Option Addr) (xc : Nat) (ds : List UInt8) : Cl := ⟨c.id, c.nr + 1, k, off, n, p, t, xo, xc, ds, true⟩
def CallPost (w : World) (B : Nat) (c : Cl) (k off n : Int) (p t : ByteArray) (ds : List UInt8) (e : Ending) (w' : World) : Prop :=
  e = .returned (.tuple #[.int .u64 ((c.nr : Int) + 1), .int .i64 0]) ∧ Keeps (fun q => q = B) w w' ∧ ∃ yo yc, ClAt w' B (c.asks k off n p t yo yc ds)
set_option maxRecDepth 100000 in
set_option maxHeartbeats 6400000 in
theorem call_right (B : Nat) (c : Cl) (k off n : Int) (p t : ByteArray) (x : Value) (ds : List UInt8) (w : World) (h : ClAt w B c) (hw : c.wt = false) (hnr : c.nr < 1000000) (hx : Reads w x ds) (hxB : ∀ a n c, x = .slice (some a) n c → ds ≠ [] → a.block ≠ B) (hr : OpRight k off n p t ds.length) :
    Calls Try.prog 11 #[.pointer (some ⟨B, 0, none⟩), .agg (opL k off n p t x).toArray] w (CallPost w B c k off n p t ds) := by
  obtain ⟨xo, xc, rfl, _⟩ := id hx
  have HC := Lib.hid h
  have HX := Lib.hid hx
  have HXB := Lib.hid hxB
  have HLN : Hid (ds.length ≤ 64) := Lib.hid hr.2.2.2.2.2.2
  have HBL : Hid (B < w.heap.size) := Lib.hid h.wh.lt
  have HNR := Lib.hid hnr
  obtain ⟨w1, hw1⟩ : ∃ w1, w.alloc (.cells (opL k off n p t (.slice xo ds.length xc)).toArray 32) = w1 := ⟨_, rfl⟩
  have HK : Hid (Same w w1) := Lib.hid (by rw [← hw1]; exact (Keeps.refl _ _).alloc _)
  have HO : Hid (Whole w1 w.heap.size 32 (opL k off n p t (.slice xo ds.length xc))) := Lib.hid (by rw [← hw1]; exact heap_alloc_new w _)
  have HX1 := Lib.hid (HX.out.same HK.out)
  have HW : Hid (Calls Try.prog 20 #[.agg (opL k off n p t (.slice xo ds.length xc)).toArray] w1 fun e w' => ∃ v, e = .returned (.tuple #[v, .int .i64 0]) ∧ w'.ownsRow w1.heap.size 5 1 v (opBytes k off n p t ds).length (u8s (opBytes k off n p t ds)) ∧ Same w1 w') := Lib.hid (by
    obtain ⟨_, _, e1, h1, _⟩ := HX1.out
    exact write_yes k off n p t xo xc ds w1 hr h1)
  have b8 : w1.cell? ⟨B, 8, none⟩ = some (.bool false) := by
    have := (h.same HK.out).wh.cell (i := 8) rfl
    rwa [hw] at this
  have HOW : Hid (w1.heap[w.heap.size]? = some (.cells (opL k off n p t (.slice xo ds.length xc)).toArray 32 (0, 0))) := Lib.hid HO.out
  obtain ⟨nr, hnr2⟩ : ∃ nr, c.nr = nr := ⟨_, rfl⟩
  have HNE := Lib.hid hnr2
  have hu : IntKind.u64.wrap ((nr : Int) + 1) = (nr : Int) + 1 := IntWalk.u64_in _ (by omega)
  unfold CallPost
  rw [hnr2]
  clear h hx hr hnr hnr2 hxB
  go_enter Try.func11, Try.ntmps11
  go_wp2_with (refine wpList_load_row (by rfl) 32 _ (by rfl) w.heap.size (by rfl) 32 (opL k off n p t (.slice xo ds.length xc)).toArray (0, 0) _ HOW.out Try.underlying32 rfl (by exact Try.sizeOpW) ?_)
  ((with_reducible refine (HW.out).mono ?_); rintro e w2 ⟨v, rfl, ho2, hk2⟩)
  have HK2 := Lib.hid (HK.out.trans hk2 (fun _ _ e => e))
  have HC2 := Lib.hid (HC.out.same HK2.out)
  have HO2 := Lib.hid (HO.out.keep hk2 (fun e => e))
  have HX2 := Lib.hid (HX1.out.same hk2)
  have b1 : w2.cell? ⟨B, 1, none⟩ = some (.int .u64 (nr : Int)) := by
    have := HC2.out.wh.cell (i := 1) rfl
    rwa [HNE.out] at this
  have z1 := HC2.out.wh.free 1
  obtain ⟨w3, hw3⟩ : ∃ w3, w2.setCell ⟨B, 1, none⟩ (.int .u64 ((nr : Int) + 1)) = w3 := ⟨_, rfl⟩
  have HW3 : Hid (Whole w3 B 66 (c.cells.set 1 (.int .u64 ((nr : Int) + 1)))) := Lib.hid (by rw [← hw3]; exact HC2.out.wh.set 1 _)
  have HK23 : Hid (Keeps (fun q => q = B) w2 w3) := Lib.hid (by rw [← hw3]; exact (Keeps.refl _ _).setCell _ _ (.inr rfl))
  have HO3 : Hid (Whole w3 w.heap.size 32 (opL k off n p t (.slice xo ds.length xc))) := Lib.hid (HO2.out.keep HK23.out (by have := HBL.out; omega))
  have HOW3 : Hid (w3.heap[w.heap.size]? = some (.cells (opL k off n p t (.slice xo ds.length xc)).toArray 32 (0, 0))) := Lib.hid HO3.out
  clear ho2 hk2 HW b8
  have HX3 : Hid (Reads w3 (.slice xo ds.length xc) ds) := Lib.hid (by
    obtain ⟨ao, m, e, h1, h2, h3⟩ := HX2.out
    refine ⟨ao, m, e, ?_, h2, h3⟩
    by_cases h0 : ds = []
    · subst h0; exact Bytes.nil _ _ _
    · exact h1.keeps HK23.out (fun a n' c' e2 hS => HXB.out a n' c' e2 h0 hS))
  have HCL := Lib.hid (twinOp_any k off n p t _ ds w3 HX3.out (by have := HLN.out; omega))
  clear b1 z1
  have b1 : w2.cell? ⟨B, 1, none⟩ = some (.int .u64 (nr : Int)) := by
    have := HC2.out.wh.cell (i := 1) rfl
    rwa [HNE.out] at this
  have z1 := HC2.out.wh.free 1
  go_wp2_with (refine wpList_load_row (by rfl) 32 _ (by rfl) w.heap.size (by rfl) 32 (opL k off n p t (.slice xo ds.length xc)).toArray (0, 0) _ HOW3.out Try.underlying32 rfl (by exact Try.sizeOpW) ?_)
  ((with_reducible refine (HCL.out).mono ?_); rintro e w4 ⟨hk4, y, rfl, hy, hf⟩)
  obtain ⟨yo, yc, rfl, _⟩ := id hy
  have HY4 := Lib.hid hy
  have HF4 := Lib.hid hf
  have HW4 := Lib.hid (HW3.out.keep hk4 (fun e => e))
  have HK24 : Hid (Keeps (fun q => q = B) w2 w4) := Lib.hid (HK23.out.trans hk4 (fun _ _ e => e.elim))
  have HSZ3 : Hid (w.heap.size ≤ w3.heap.size) := Lib.hid (by have h1 := HK2.out.size; have h2 := HK23.out.size; omega)
  obtain ⟨w5, hw5⟩ : ∃ w5, w4.setRow B ((c.cells.set 1 (.int .u64 ((nr : Int) + 1))).toArray.toList.take 2 ++ (opL k off n p t (.slice yo ds.length yc)).toArray.toList ++ (c.cells.set 1 (.int .u64 ((nr : Int) + 1))).toArray.toList.drop (2 + (opL k off n p t (.slice yo ds.length yc)).toArray.toList.length)).toArray = w5 := ⟨_, rfl⟩
  have HWW5 := Lib.hid hw5
  have HW5 : Hid (Whole w5 B 66 [.int .i64 c.id, .int .u64 ((nr : Int) + 1), .int .i64 k, .string p, .string t, .int .i64 off, .int .i64 n, .slice yo ds.length yc, .bool c.wt]) := Lib.hid (by rw [← hw5]; exact HW4.out.row)
  have HK25 : Hid (Keeps (fun q => q = B) w2 w5) := Lib.hid (by rw [← hw5]; exact HK24.out.setRow _ _ (.inr rfl))
  have HK45 : Hid (Keeps (fun q => q = B) w4 w5) := Lib.hid (by rw [← hw5]; exact (Keeps.refl _ _).setRow _ _ (.inr rfl))
  have HYY5 : Hid (Reads w5 (.slice yo ds.length yc) ds) := Lib.hid (HY4.out.far HF4.out HK45.out (fun j e => by have := HBL.out; have := HSZ3.out; omega))
  have b8 : w5.cell? ⟨B, 8, none⟩ = some (.bool c.wt) := HW5.out.cell (i := 8) rfl
  have z8 := HW5.out.free 8
  obtain ⟨w6, hw6⟩ : ∃ w6, w5.setCell ⟨B, 8, none⟩ (.bool true) = w6 := ⟨_, rfl⟩
  have HW6 : Hid (Whole w6 B 66 [.int .i64 c.id, .int .u64 ((nr : Int) + 1), .int .i64 k, .string p, .string t, .int .i64 off, .int .i64 n, .slice yo ds.length yc, .bool true]) := Lib.hid (by rw [← hw6]; exact HW5.out.set 8 _)
  have HK56 : Hid (Keeps (fun q => q = B) w5 w6) := Lib.hid (by rw [← hw6]; exact (Keeps.refl _ _).setCell _ _ (.inr rfl))
  have HEND : Hid (Keeps (fun q => q = B) w w6 ∧ ClAt w6 B (c.asks k off n p t yo yc ds)) := Lib.hid (by
    refine ⟨Keeps.trans (S := fun q => q = B) (⟨HK2.out.os, HK2.out.tape, HK2.out.output, HK2.out.size, fun q h _ => HK2.out.block q h (fun e => e)⟩) (HK25.out.trans HK56.out (fun _ _ e => e)) (fun _ _ e => e), ?_, ?_, ?_, ?_, ?_⟩
    · have := HW6.out
      rw [← HNE.out] at this
      exact this
    · exact HYY5.out.far HF4.out HK56.out (fun j e => by have := HBL.out; have := HSZ3.out; omega)
    · exact HF4.out.le (by have := HBL.out; have := HSZ3.out; omega)
    · have := HNR.out; simp only [Cl.asks]; omega
    · exact HLN.out)
  have b1' : w6.cell? ⟨B, 1, none⟩ = some (.int .u64 ((nr : Int) + 1)) := HW6.out.cell (i := 1) rfl
  clear hk4 hy hf HCL b1 z1 hw5 hw3
  go_wp2_with (refine wpList_store_in (by rfl) 32 _ _ (by rfl) B 2 66 (opL k off n p t (.slice yo ds.length yc)).toArray (c.cells.set 1 (.int .u64 ((nr : Int) + 1))).toArray (by rfl) (by rfl) HW4.out (by simp [Cl.cells, opL]) (by exact Try.sizeOpW) (by simp [opL, Value.oneCell']) ?_; rw [HWW5.out])
  go_ret2
  exact ⟨rfl, HEND.out.1, yo, yc, HEND.out.2⟩
end Go.Proofs.Ytlglkkoippoafaa
