/- Copies of calls and answers; client.New, Waiting. -/
import Derived.Test.YtlglkkoippoafaaCl0
import Derived.Test.YtlglkkoippoafaaRw
namespace Go.Proofs.Ytlglkkoippoafaa
open Go.RowKit
set_option linter.unusedVariables false

def callL (c : Int) (nr : Nat) (k off n : Int) (p t : ByteArray) (x : Value) : List Value := [.int .i64 c, .int .u64 nr, .int .i64 k, .string p, .string t, .int .i64 off, .int .i64 n, x]
def callL0 : List Value := callL 0 0 0 0 0 ⟨#[]⟩ ⟨#[]⟩ (.slice none 0 0)
theorem Try.zeroCallL (w : World) : (zeroValue 38).run Try.prog w = .ok (.agg callL0.toArray) w := by kernel_rfl
theorem callL_all (c : Int) (nr : Nat) (k off n : Int) (p t : ByteArray) (ao : Option Addr) (l m : Nat) : (callL c nr k off n p t (.slice ao l m)).toArray.all (·.oneCell') = true := by simp [callL, Value.oneCell']

set_option maxRecDepth 100000 in
set_option maxHeartbeats 3200000 in
theorem twinCall_any (c : Int) (nr : Nat) (k off n : Int) (p t : ByteArray) (x : Value) (ds : List UInt8) (w : World) (hx : Reads w x ds) (hl : ds.length ≤ 140737488351232) :
    Calls Try.prog 23 #[.agg (callL c nr k off n p t x).toArray] w fun e w' => Same w w' ∧ ∃ y, e = .returned (.agg (callL c nr k off n p t y).toArray) ∧ Reads w' y ds ∧ FarFrom w.heap.size y ds := by
  have hzs := Try.zeroCallL
  have HX := Lib.hid hx
  obtain ⟨xo, xc, rfl, _⟩ := id hx
  obtain ⟨w1, hw1⟩ : ∃ w1, w.alloc (.cells (callL c nr k off n p t (.slice xo ds.length xc)).toArray 38) = w1 := ⟨_, rfl⟩
  obtain ⟨w2, hw2⟩ : ∃ w2, w1.alloc (.cells callL0.toArray 38) = w2 := ⟨_, rfl⟩
  have hs1 : w1.heap.size = w.heap.size + 1 := by rw [← hw1]; simp
  have HLT : Hid (w.heap.size < w1.heap.size ∧ w1.heap.size < w2.heap.size) := Lib.hid (by rw [← hw2]; simp; omega)
  have HK2 : Hid (Same w w2) := Lib.hid (by rw [← hw2, ← hw1]; exact ((Keeps.refl _ _).alloc _).alloc _)
  have HA : Hid (Whole w2 w.heap.size 38 (callL c nr k off n p t (.slice xo ds.length xc))) := Lib.hid (by
    have h1 : Whole w1 w.heap.size 38 (callL c nr k off n p t (.slice xo ds.length xc)) := by rw [← hw1]; exact heap_alloc_new w _
    rw [← hw2]; exact h1.keep ((Keeps.refl (fun _ => False) _).alloc _) (fun e => e))
  have HB : Hid (Whole w2 w1.heap.size 38 callL0) := Lib.hid (by rw [← hw2]; exact heap_alloc_new w1 _)
  have HR : Hid (w2.rangeAt w.heap.size 2 (opL k off n p t (.slice xo ds.length xc))) := Lib.hid (fun j v hj => HA.out.cell (by
    rw [show callL c nr k off n p t (.slice xo ds.length xc) = [.int .i64 c, .int .u64 nr] ++ opL k off n p t (.slice xo ds.length xc) from rfl, List.getElem?_append_right (by simp)]
    simpa using hj))
  have HCL := Lib.hid (twinOp_any k off n p t _ ds w2 (HX.out.same HK2.out) hl)
  clear hx hs1
  go_enter Try.func23, Try.ntmps23
  go_wp2_with (refine wpList_load_mid (by rfl) 32 _ (by rfl) w.heap.size 2 (by rfl) (opL k off n p t (.slice xo ds.length xc)) _ HR.out Try.underlying32 rfl (by exact Try.sizeOpW) ?_)
  ((with_reducible refine (HCL.out).mono ?_); rintro e w3 ⟨hk3, y, rfl, hy, hf⟩)
  obtain ⟨yo, yc, rfl, _⟩ := id hy
  have HY := Lib.hid hy
  have HF := Lib.hid hf
  have HK3 := Lib.hid (HK2.out.trans hk3 (fun _ _ e => e))
  have HA3 := Lib.hid (HA.out.keep hk3 (fun e => e))
  have HB3 := Lib.hid (HB.out.keep hk3 (fun e => e))
  obtain ⟨w4, hw4⟩ : ∃ w4, w3.setRow w.heap.size ((callL c nr k off n p t (.slice xo ds.length xc)).toArray.toList.take 2 ++ (opL k off n p t (.slice yo ds.length yc)).toArray.toList ++ (callL c nr k off n p t (.slice xo ds.length xc)).toArray.toList.drop (2 + (opL k off n p t (.slice yo ds.length yc)).toArray.toList.length)).toArray = w4 := ⟨_, rfl⟩
  have HW4 := Lib.hid hw4
  have HA4 : Hid (Whole w4 w.heap.size 38 (callL c nr k off n p t (.slice yo ds.length yc))) := Lib.hid (by rw [← hw4]; exact HA3.out.row)
  have HK4 : Hid (Keeps (fun q => w.heap.size ≤ q ∧ q < w2.heap.size) w3 w4) := Lib.hid (by rw [← hw4]; exact (Keeps.refl _ _).setRow _ _ (.inr (by have := HLT.out; omega)))
  have HK4' : Hid (Keeps (fun q => q = w.heap.size) w3 w4) := Lib.hid (by rw [← hw4]; exact (Keeps.refl _ _).setRow _ _ (.inr rfl))
  have HB4 : Hid (Whole w4 w1.heap.size 38 callL0) := Lib.hid (HB3.out.keep HK4'.out (by have := HLT.out; omega))
  have HEND : Hid (Same w (w4.setRow w1.heap.size (callL c nr k off n p t (.slice yo ds.length yc)).toArray) ∧ Whole (w4.setRow w1.heap.size (callL c nr k off n p t (.slice yo ds.length yc)).toArray) w1.heap.size 38 (callL c nr k off n p t (.slice yo ds.length yc)) ∧ Reads (w4.setRow w1.heap.size (callL c nr k off n p t (.slice yo ds.length yc)).toArray) (.slice yo ds.length yc) ds) := Lib.hid (by
    have kk : Keeps (fun q => w.heap.size ≤ q ∧ q < w2.heap.size) w3 (w4.setRow w1.heap.size (callL c nr k off n p t (.slice yo ds.length yc)).toArray) := HK4.out.setRow _ _ (.inr (by have := HLT.out; omega))
    refine ⟨HK3.out.trans kk (fun q hq e => by omega), HB4.out.row, ?_⟩
    exact HY.out.far HF.out kk (fun j e => e.2))
  clear hk3 hy hf HCL HA HB hw1 hw2 hw4
  go_wp2_with (first
    | (refine wpList_store_in (by rfl) 32 _ _ (by rfl) w.heap.size 2 38 (opL k off n p t (.slice yo ds.length yc)).toArray (callL c nr k off n p t (.slice xo ds.length xc)).toArray (by rfl) (by rfl) HA3.out (by simp [callL, opL]) (by exact Try.sizeOpW) (by simp [opL, Value.oneCell']) ?_; rw [HW4.out])
    | (refine wpList_load_row (by rfl) 38 _ (by rfl) w.heap.size (by rfl) 38 (callL c nr k off n p t (.slice yo ds.length yc)).toArray (0, 0) _ HA4.out Try.underlying38 rfl (by exact Try.sizeCallW) ?_)
    | (refine wpList_store_row (by rfl) 38 _ _ (by rfl) w1.heap.size (callL c nr k off n p t (.slice yo ds.length yc)).toArray (by rfl) (by rfl) 38 callL0.toArray HB4.out (by exact Try.sizeCallW) rfl (callL_all _ _ _ _ _ _ _ _ _ _) ?_))
  refine bodyPost_ret (results_cell_row rfl _ _ w1.heap.size 38 _ (0, 0) _ (by rfl) HEND.out.2.1 Try.underlying38 rfl (by exact Try.sizeCallW)) rfl
    ⟨HEND.out.1, _, rfl, HEND.out.2.2, HF.out.le (by have := HLT.out; omega)⟩

def ansL (c n : Int) (x y : Value) : List Value := [.int .i64 c, .int .i64 n, x, y]
def ansL0 : List Value := ansL 0 0 (.slice none 0 0) (.slice none 0 0)
theorem Try.zeroAnsL (w : World) : (zeroValue 41).run Try.prog w = .ok (.agg ansL0.toArray) w := by kernel_rfl
theorem ansL_all (c n : Int) (ao bo : Option Addr) (l m l2 m2 : Nat) : (ansL c n (.slice ao l m) (.slice bo l2 m2)).toArray.all (·.oneCell') = true := by simp [ansL, Value.oneCell']

set_option maxRecDepth 100000 in
set_option maxHeartbeats 3200000 in
theorem twinAns_any (c n : Int) (x : Value) (no : Option Addr) (nl nc : Nat) (ds : List UInt8) (ss : List ByteArray) (w : World) (hx : Reads w x ds) (hs : Strs w (.slice no nl nc) ss) (hn : ss.length = nl) (hl : ds.length ≤ 140737488351232) (hl2 : nl ≤ 1000000) :
    Calls Try.prog 27 #[.agg (ansL c n x (.slice no nl nc)).toArray] w fun e w' => Same w w' ∧ ∃ y bo bc, e = .returned (.agg (ansL c n y (.slice bo nl bc)).toArray) ∧ Reads w' y ds ∧ Strs w' (.slice bo nl bc) ss ∧ FarFrom w.heap.size y ds ∧ ∀ a, bo = some a → w.heap.size ≤ a.block := by
  have hzs := Try.zeroAnsL
  have HX := Lib.hid hx
  have HS := Lib.hid hs
  have HN := Lib.hid hn
  obtain ⟨xo, xc, rfl, _⟩ := id hx
  obtain ⟨w1, hw1⟩ : ∃ w1, w.alloc (.cells (ansL c n (.slice xo ds.length xc) (.slice no nl nc)).toArray 41) = w1 := ⟨_, rfl⟩
  obtain ⟨w2, hw2⟩ : ∃ w2, w1.alloc (.cells ansL0.toArray 41) = w2 := ⟨_, rfl⟩
  have hs1 : w1.heap.size = w.heap.size + 1 := by rw [← hw1]; simp
  have HLT : Hid (w.heap.size < w1.heap.size ∧ w1.heap.size < w2.heap.size) := Lib.hid (by rw [← hw2]; simp; omega)
  have HK2 : Hid (Same w w2) := Lib.hid (by rw [← hw2, ← hw1]; exact ((Keeps.refl _ _).alloc _).alloc _)
  have HA : Hid (Whole w2 w.heap.size 41 (ansL c n (.slice xo ds.length xc) (.slice no nl nc))) := Lib.hid (by
    have h1 : Whole w1 w.heap.size 41 (ansL c n (.slice xo ds.length xc) (.slice no nl nc)) := by rw [← hw1]; exact heap_alloc_new w _
    rw [← hw2]; exact h1.keep ((Keeps.refl (fun _ => False) _).alloc _) (fun e => e))
  have HB : Hid (Whole w2 w1.heap.size 41 ansL0) := Lib.hid (by rw [← hw2]; exact heap_alloc_new w1 _)
  have c2 : w2.cell? ⟨w.heap.size, 2, none⟩ = some (.slice xo ds.length xc) := HA.out.cell (i := 2) rfl
  have HCL := Lib.hid (cloneB_any _ ds w2 (HX.out.same HK2.out) hl)
  clear hx hs hn hs1
  go_enter Try.func27, Try.ntmps27
  go_wp2_with fail
  ((with_reducible refine (HCL.out).mono ?_); rintro e w3 ⟨hk3, y, rfl, hy, hf⟩)
  obtain ⟨yo, yc, rfl, _⟩ := id hy
  obtain ⟨ln, hln⟩ : ∃ n, ds.length = n := ⟨_, rfl⟩
  rw [hln] at hy hf c2 HA HX ⊢
  clear hln
  have HY := Lib.hid hy
  have HF := Lib.hid hf
  have HK3 := Lib.hid (HK2.out.trans hk3 (fun _ _ e => e))
  have HA3 := Lib.hid (HA.out.keep hk3 (fun e => e))
  have HB3 := Lib.hid (HB.out.keep hk3 (fun e => e))
  have c2 := HA3.out.cell (i := 2) rfl
  have z2 := HA3.out.free 2
  obtain ⟨w4, hw4⟩ : ∃ w4, w3.setCell ⟨w.heap.size, 2, none⟩ (.slice yo ln yc) = w4 := ⟨_, rfl⟩
  have HK4 : Hid (Keeps (fun q => q = w.heap.size) w3 w4) := Lib.hid (by rw [← hw4]; exact (Keeps.refl _ _).setCell _ _ (.inr rfl))
  have HS34 : Hid (Same w w4) := Lib.hid (HK3.out.trans HK4.out (fun q hq e => by omega))
  have HA4 : Hid (Whole w4 w.heap.size 41 (ansL c n (.slice yo ln yc) (.slice no nl nc))) := Lib.hid (by rw [← hw4]; exact HA3.out.set 2 _)
  have HB4 : Hid (Whole w4 w1.heap.size 41 ansL0) := Lib.hid (HB3.out.keep HK4.out (by have := HLT.out; omega))
  have HSZ : Hid (w2.heap.size ≤ w4.heap.size) := Lib.hid (by have h1 := hk3.size; have h2 := HK4.out.size; omega)
  have HY4 : Hid (Reads w4 (.slice yo ln yc) ds) := Lib.hid (HY.out.far HF.out HK4.out (fun j e => by have := HLT.out; omega))
  have c3 : w4.cell? ⟨w.heap.size, 3, none⟩ = some (.slice no nl nc) := HA4.out.cell (i := 3) rfl
  have HCS := Lib.hid (cloneS_any no nl nc ss w4 (HS.out.same HS34.out) HN.out hl2)
  clear hk3 hy hf HCL HA HB hw1 hw2
  go_wp2_with fail
  ((with_reducible refine (HCS.out).mono ?_); rintro e w5 ⟨hk5, bo, bc, rfl, hs5, hb5⟩)
  have HS5 := Lib.hid hs5
  have HB5F := Lib.hid hb5
  have HK5 := Lib.hid (HS34.out.trans hk5 (fun _ _ e => e))
  have HA5 := Lib.hid (HA4.out.keep hk5 (fun e => e))
  have HB5 := Lib.hid (HB4.out.keep hk5 (fun e => e))
  have HY5 := Lib.hid (HY4.out.same hk5)
  have c3 := HA5.out.cell (i := 3) rfl
  have z3 := HA5.out.free 3
  obtain ⟨w6, hw6⟩ : ∃ w6, w5.setCell ⟨w.heap.size, 3, none⟩ (.slice bo nl bc) = w6 := ⟨_, rfl⟩
  have HK6 : Hid (Keeps (fun q => q = w.heap.size) w5 w6) := Lib.hid (by rw [← hw6]; exact (Keeps.refl _ _).setCell _ _ (.inr rfl))
  have HA6 : Hid (Whole w6 w.heap.size 41 (ansL c n (.slice yo ln yc) (.slice bo nl bc))) := Lib.hid (by rw [← hw6]; exact HA5.out.set 3 _)
  have HB6 : Hid (Whole w6 w1.heap.size 41 ansL0) := Lib.hid (HB5.out.keep HK6.out (by have := HLT.out; omega))
  have HEND : Hid (Same w (w6.setRow w1.heap.size (ansL c n (.slice yo ln yc) (.slice bo nl bc)).toArray) ∧ Whole (w6.setRow w1.heap.size (ansL c n (.slice yo ln yc) (.slice bo nl bc)).toArray) w1.heap.size 41 (ansL c n (.slice yo ln yc) (.slice bo nl bc)) ∧ Reads (w6.setRow w1.heap.size (ansL c n (.slice yo ln yc) (.slice bo nl bc)).toArray) (.slice yo ln yc) ds ∧ Strs (w6.setRow w1.heap.size (ansL c n (.slice yo ln yc) (.slice bo nl bc)).toArray) (.slice bo nl bc) ss) := Lib.hid (by
    have kk : Keeps (fun q => w.heap.size ≤ q ∧ q < w2.heap.size) w5 (w6.setRow w1.heap.size (ansL c n (.slice yo ln yc) (.slice bo nl bc)).toArray) :=
      Keeps.setRow (HK6.out.trans (Keeps.refl _ _) (fun q _ e => e) |> fun h => ⟨h.os, h.tape, h.output, h.size, fun q hq hn => h.block q hq (fun e => hn (by have := HLT.out; omega))⟩) _ _ (.inr (by have := HLT.out; omega))
    refine ⟨HK5.out.trans kk (fun q hq e => by omega), HB6.out.row, HY5.out.far HF.out kk (fun j e => e.2), HS5.out.keeps kk (fun a m c' e h => ?_)⟩
    simp only [Value.slice.injEq] at e
    have := HB5F.out a e.1
    have := HSZ.out
    omega)
  clear hk5 hs5 hb5 HCS hw4
  go_wp2_with (first
    | (refine wpList_load_row (by rfl) 41 _ (by rfl) w.heap.size (by rfl) 41 (ansL c n (.slice yo ln yc) (.slice bo nl bc)).toArray (0, 0) _ HA6.out Try.underlying41 rfl (by exact Try.sizeAnsW) ?_)
    | (refine wpList_store_row (by rfl) 41 _ _ (by rfl) w1.heap.size (ansL c n (.slice yo ln yc) (.slice bo nl bc)).toArray (by rfl) (by rfl) 41 ansL0.toArray HB6.out (by exact Try.sizeAnsW) rfl (ansL_all _ _ _ _ _ _ _ _) ?_))
  refine bodyPost_ret (results_cell_row rfl _ _ w1.heap.size 41 _ (0, 0) _ (by rfl) HEND.out.2.1 Try.underlying41 rfl (by exact Try.sizeAnsW)) rfl
    ⟨HEND.out.1, _, bo, bc, rfl, HEND.out.2.2.1, HEND.out.2.2.2, HF.out.le (by have := HLT.out; omega), fun a e => by have h1 := HB5F.out a e; have h2 := HSZ.out; have h3 := HLT.out; omega⟩
end Go.Proofs.Ytlglkkoippoafaa
