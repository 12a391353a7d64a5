/- Both out of an argument; the walk of OperApart. -/
import Derived.Test.YtickphkeeflbbaaOpen10
import Derived.Test.YtickphkeeflbbaaApart2
namespace Go.Proofs.Ytickphkeeflbbaa
open Go.ChangeShapes Go.WideShapes Go.ChangeAt Go.RowKit
set_option linter.unusedVariables false
variable {H : Type} {enc : TypeId × Value → H}

theorem list10 {α : Type} (l : List α) (a : List α) (b : List α) (h : l.length = 10) (h1 : l.take 6 = a) (h2 : (l.drop 6).take 4 = b) : l = a ++ b := by
  rw [← h1, ← h2, List.take_of_length_le (l := l.drop 6) (by simp; omega), List.take_append_drop]
/-- An operation and an answer as a value. -/
abbrev bothVal (k off n : Int) (p t : ByteArray) (x : Value) (c m : Int) (y z : Value) : Value := .agg #[.int .i64 k, .string p, .string t, .int .i64 off, .int .i64 n, x, .int .i64 c, .int .i64 m, y, z]

theorem open_both {W : World} {base : Nat} {v : Value} {d : DataW H} {ps : List MemPlace}
    (hok : Value.okWide Try.prog W .any base 52 v) (h : DataW.Trod enc Try.prog W 0 (fun _ => true) true 52 v d ps) :
    ∃ cs cs2 k off n p t ao cap ds c m bo no bcap ncap es ss, v = bothVal k off n p t (.slice ao ds.length cap) c m (.slice bo es.length bcap) (.slice no ss.length ncap) ∧ OpCells W cs k off n p t ao cap ds ∧ AnsCells W cs2 c m bo no bcap ncap es ss := by
  obtain ⟨cs, rfl, hsz⟩ := okWide_struct Try.underlying52 hok
  obtain ⟨fuel, hf⟩ := h
  have hc : Try.prog.cellsOf 52 = 10 := by kernel_rfl
  rw [hc] at hsz
  obtain ⟨xs, m, _, _, hlen, hxs, hfd⟩ := DataW.trod_struct Try.underlying52 hf
  obtain ⟨x0, x1, rfl⟩ := two_of xs hxs
  have f0 := hfd 0 _ rfl
  have f1 := hfd 1 _ rfl
  obtain ⟨k, off, n, p, t, ao, cap, ds, ho⟩ := open_op_trod f0
  obtain ⟨c, mm, bo, no, bcap, ncap, es, ss, ha⟩ := open_ans_trod f1
  have h1 : cs.toList.take 6 = _ := ho.1
  have h2 : (cs.toList.drop 6).take 4 = _ := ha.1
  have h3 := list10 cs.toList _ _ (by simpa using hsz) h1 h2
  refine ⟨_, _, k, off, n, p, t, ao, cap, ds, c, mm, bo, no, bcap, ncap, es, ss, ?_, ho, ha⟩
  have h4 : cs = (cs.toList).toArray := by simp
  rw [h4, h3]
  rfl

theorem cell_of_ten {w : World} {b : Nat} {v0 v1 v2 v3 v4 v5 v6 v7 v8 v9 : Value} {t : TypeId} (h : w.heap[b]? = some (.cells #[v0, v1, v2, v3, v4, v5, v6, v7, v8, v9] t (0, 0))) :
    w.cell? ⟨b, 0, none⟩ = some v0 ∧ w.cell? ⟨b, 1, none⟩ = some v1 ∧ w.cell? ⟨b, 2, none⟩ = some v2 ∧ w.cell? ⟨b, 3, none⟩ = some v3 ∧ w.cell? ⟨b, 4, none⟩ = some v4 ∧ w.cell? ⟨b, 5, none⟩ = some v5 ∧
    w.cell? ⟨b, 6, none⟩ = some v6 ∧ w.cell? ⟨b, 7, none⟩ = some v7 ∧ w.cell? ⟨b, 8, none⟩ = some v8 ∧ w.cell? ⟨b, 9, none⟩ = some v9 := by simp [World.cell?, h]

set_option maxRecDepth 100000 in
set_option maxHeartbeats 3200000 in
theorem both_ok {cs cs2 ds0 ds02 : List Value} {k off n : Int} {p t : ByteArray} {ao : Option Addr} {cap : Nat} {ds : List UInt8} {c m : Int} {bo no : Option Addr} {bcap ncap : Nat} {es : List UInt8} {ss : List ByteArray}
    {k' off' n' : Int} {p' t' : ByteArray} {ao' : Option Addr} {cap' : Nat} {ds' : List UInt8} {c' m' : Int} {bo' no' : Option Addr} {bcap' ncap' : Nat} {es' : List UInt8} {ss' : List ByteArray} (w : World)
    (h1 : OpCells w cs k off n p t ao cap ds) (h2 : AnsCells w cs2 c m bo no bcap ncap es ss) (h3 : OpCells w ds0 k' off' n' p' t' ao' cap' ds') (h4 : AnsCells w ds02 c' m' bo' no' bcap' ncap' es' ss') :
    Calls Try.prog 6 #[bothVal k off n p t (.slice ao ds.length cap) c m (.slice bo es.length bcap) (.slice no ss.length ncap), bothVal k' off' n' p' t' (.slice ao' ds'.length cap') c' m' (.slice bo' es'.length bcap') (.slice no' ss'.length ncap')] w fun e w' => e = .returned (.bool true) ∧ Same w w' := by
  obtain ⟨A, hA⟩ : ∃ o : Obj, o = .cells #[.int .i64 k, .string p, .string t, .int .i64 off, .int .i64 n, .slice ao ds.length cap, .int .i64 c, .int .i64 m, .slice bo es.length bcap, .slice no ss.length ncap] 52 (0, 0) := ⟨_, rfl⟩
  obtain ⟨B, hB⟩ : ∃ o : Obj, o = .cells #[.int .i64 k', .string p', .string t', .int .i64 off', .int .i64 n', .slice ao' ds'.length cap', .int .i64 c', .int .i64 m', .slice bo' es'.length bcap', .slice no' ss'.length ncap'] 52 (0, 0) := ⟨_, rfl⟩
  have ho1 : ((w.alloc A).alloc B).heap[w.heap.size]? = some A := ((Keeps.refl (fun _ => False) _).alloc _).obj (heap_alloc_new w _) (fun e => e)
  have hq1 : ((w.alloc A).alloc B).heap[w.heap.size + 1]? = some B := by have := heap_alloc_new (w.alloc A) B; simpa using this
  have hk1 : Same w ((w.alloc A).alloc B) := ((Keeps.refl _ _).alloc _).alloc _
  rw [hA, hB] at ho1 hq1 hk1
  have HO1 := Lib.hid ho1
  have HQ1 := Lib.hid hq1
  have HK1 := Lib.hid hk1
  obtain ⟨_, x1, s1, _, _, _⟩ := h1
  obtain ⟨_, x2, s2, _, _, y2, _⟩ := h2
  obtain ⟨_, x3, s3, _, _, _⟩ := h3
  obtain ⟨_, x4, s4, _, _, y4, _⟩ := h4
  have HX1 := Lib.hid x1
  have HX2 := Lib.hid x2
  have HX3 := Lib.hid x3
  have HX4 := Lib.hid x4
  have HY2 := Lib.hid y2
  have HY4 := Lib.hid y4
  have HS : Hid (_ ∧ _ ∧ _ ∧ _) := Lib.hid ⟨s1, s2, s3, s4⟩
  clear ho1 hq1 hk1 x1 s1 x2 s2 y2 x3 s3 x4 s4 y4 hA hB
  go_enter Try.func6, Try.ntmps6
  go_wp2_with fail
  ((with_reducible refine (speaks10 _).mono ?_); rintro e w1 ⟨rfl, hk⟩)
  have ho := hk.obj HO1.out (fun e => e)
  have hq := hk.obj HQ1.out (fun e => e)
  have HK2 : Hid (Same w w1) := Lib.hid (HK1.out.trans hk (fun _ _ e => e))
  have HO2 := Lib.hid ho
  have HQ2 := Lib.hid hq
  obtain ⟨a0, a1, a2, a3, a4, a5, a6, a7, a8, a9⟩ := cell_of_ten ho
  obtain ⟨b0, b1, b2, b3, b4, b5, b6, b7, b8, b9⟩ := cell_of_ten hq
  clear hk ho hq a6 a7 a8 a9 b6 b7 b8 b9
  go_wp2_with fail
  ((with_reducible refine (apart_ok k off n k' off' n' p t p' t' ao ao' cap cap' ds ds' _ (HX1.out.same HK2.out) (HX3.out.same HK2.out) HS.out.1 HS.out.2.2.1).mono ?_); rintro e w2 ⟨rfl, hk⟩)
  have ho := hk.obj HO2.out (fun e => e)
  have hq := hk.obj HQ2.out (fun e => e)
  have HK3 : Hid (Same w w2) := Lib.hid (HK2.out.trans hk (fun _ _ e => e))
  clear a0 a1 a2 a3 a4 a5 b0 b1 b2 b3 b4 b5
  obtain ⟨a0, a1, a2, a3, a4, a5, a6, a7, a8, a9⟩ := cell_of_ten ho
  obtain ⟨b0, b1, b2, b3, b4, b5, b6, b7, b8, b9⟩ := cell_of_ten hq
  clear hk ho hq a0 a1 a2 a3 a4 a5 b0 b1 b2 b3 b4 b5
  go_wp2_with fail
  ((with_reducible refine (answers_ok c m c' m' bo bo' no no' bcap bcap' ncap ncap' es es' ss ss' _ (HX2.out.same HK3.out) (HX4.out.same HK3.out) HS.out.2.1 HS.out.2.2.2 (HY2.out.same HK3.out) (HY4.out.same HK3.out)).mono ?_); rintro e w3 ⟨rfl, hk⟩)
  have HK4 : Hid (Same w w3) := Lib.hid (HK3.out.trans hk (fun _ _ e => e))
  clear hk
  go_wp2
  go_ret
  exact ⟨rfl, HK4.out⟩

end Go.Proofs.Ytickphkeeflbbaa
