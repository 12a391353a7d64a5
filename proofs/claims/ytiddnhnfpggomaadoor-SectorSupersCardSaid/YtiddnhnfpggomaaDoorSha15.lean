/- The document's own round numbers; padding. -/
import Derived.Test.YtiddnhnfpggomaaDoorSha14
import Derived.Great.BuildSlice
namespace Go.Proofs.YtiddnhnfpggomaaDoor
open Go.RowKit
set_option linter.unusedVariables false

def z64 : List Value := u32s (List.replicate 64 0)
theorem z64_length : z64.length = 64 := by simp [z64, u32s]
theorem ks_length : (u32s roundKs).length = 64 := rfl
theorem Tryd.zero64 (w : World) : (zeroValue 78).run Tryd.prog w = .ok (.agg z64.toArray) w := by kernel_rfl
theorem Tryd.size64 (l : List Wd) (h : l.length = 64) : (Tryd.prog.info? 78).map (·.size) = some (u32s l).toArray.size := by
  have e : (u32s l).toArray.size = 64 := by rw [List.size_toArray, u32s_length]; exact h
  have e2 : (Tryd.prog.info? 78).map (·.size) = some 64 := by kernel_rfl
  rw [e]; exact e2
theorem u32s_all (l : List Wd) : (u32s l).toArray.all (·.oneCell') = true := by
  rw [Array.all_eq_true']
  intro v hv
  simp only [u32s, List.mem_toArray, List.mem_map] at hv
  obtain ⟨x, _, rfl⟩ := hv
  rfl
theorem size64' (a b : List Wd) (h : a.length = b.length) : (u32s a).toArray.size = (u32s b).toArray.size := by
  rw [List.size_toArray, List.size_toArray, u32s_length, u32s_length, h]

set_option maxRecDepth 100000 in
set_option maxHeartbeats 6400000 in
theorem rconstants (w : World) : Calls Tryd.prog 41 #[] w fun e w' => e = .returned (.agg (u32s roundKs).toArray) ∧ Same w w' := by
  have hz := Tryd.zero64
  have HI := Lib.hid (Tryd.size64 roundKs roundKs_length)
  have HS := Lib.hid (size64' (List.replicate 64 0) roundKs (by rw [roundKs_length]; simp))
  have HN : Hid ((w.alloc (.cells z64.toArray 78)).heap[w.heap.size]? = some (.cells (u32s (List.replicate 64 0)).toArray 78 (0, 0))) := Lib.hid (heap_alloc_new w _)
  have HEND : Hid (Same w ((w.alloc (.cells z64.toArray 78)).setRow w.heap.size (u32s roundKs).toArray) ∧ Whole ((w.alloc (.cells z64.toArray 78)).setRow w.heap.size (u32s roundKs).toArray) w.heap.size 78 (u32s roundKs)) := Lib.hid
    ⟨((Keeps.refl _ _).alloc _).setRow _ _ (.inl (Nat.le_refl _)), Whole.row (cs := z64) (heap_alloc_new w _)⟩
  go_enter Tryd.func41, Tryd.ntmps41
  go_wp2_with (first
    | (refine wpList_buildTo (by rfl) 78 _ (by rfl) _ (by rfl) (u32s roundKs).toArray (by kernel_rfl) ?_)
    | (refine wpList_store_row (by rfl) 78 _ _ (by rfl) w.heap.size (u32s roundKs).toArray (by rfl) (by rfl) 78 (u32s (List.replicate 64 0)).toArray HN.out HI.out HS.out (u32s_all _) ?_))
  exact bodyPost_ret (v := .agg (u32s roundKs).toArray) (results_cell_row (p := 0) (ty := 78) rfl _ _ w.heap.size 78 _ (0, 0) _ (by rfl) HEND.out.2 Tryd.underlying78 rfl HI.out) rfl ⟨rfl, HEND.out.1⟩

end Go.Proofs.YtiddnhnfpggomaaDoor
