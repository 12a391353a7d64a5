/- The example of votes; the walk of VoteCounts. -/
import Derived.Test.YteidjpnmfmcfkaaVt5
namespace Go.Proofs.Yteidjpnmfmcfkaa
open Go.RowKit Go.Maps
set_option linter.unusedVariables false

theorem wpList_slice2 {P : Program} {ops : Array Oper} {rest : List Oper} {o : Oper} {a : Act} {w : World} {Q : Exit → Act → World → Prop} (hg : o.guard = none) (t : TypeId) (x y : Operand) (ho : o.op = .buildSlice t 2 #[(0, x), (1, y)]) (c1 c2 : Array Value) (hx : a.eval x = .agg c1) (hy : a.eval y = .agg c2) (v : Value) (w' : World)
    (hr : (Instr.buildSlice t 2 #[(0, .agg c1), (1, .agg c2)]).run P w = .ok v w') (hK : wpList P ops Q rest (a.put o.dst v) w') : wpList P ops Q (o :: rest) a w := by
  refine wpList_plain hg fun K' hK' => ?_
  unfold Oper.wp
  simp [execOp, ho, hx, hy, hr, Result.andThen]
  exact hK' _ _ hK
def exV1 : VoteX := ⟨0, 3, 1, 5, 0, List.replicate 32 0⟩
def exV2 : VoteX := ⟨2, 3, 2, 3, 0, List.replicate 32 0⟩
theorem lit_votes (w : World) : (Instr.buildSlice 27 2 #[(0, .agg exV1.cells.toArray), (1, .agg exV2.cells.toArray)]).run Try.prog w = .ok (.slice (some ⟨w.heap.size, 0, none⟩) 2 2) (w.alloc (.cells (exV1.cells ++ exV2.cells).toArray 31)) := by kernel_rfl
theorem ex_ok : ∀ v ∈ [exV1, exV2], v.ok := by
  intro v hv
  simp only [List.mem_cons, List.not_mem_nil, or_false] at hv
  rcases hv with rfl | rfl
  · exact ⟨by decide, by decide, by decide, rfl⟩
  · exact ⟨by decide, by decide, by decide, rfl⟩
theorem ex_two : chOf 3 3 [exV1, exV2] = (exV2, 0, true) := by kernel_rfl
theorem ex_one : chOf 3 3 [exV1] = (vote0, 0, false) := by kernel_rfl
theorem votes_row {w : World} {B : Nat} {t : TypeId} {vs : List VoteX} (hl : ∀ v ∈ vs, v.head.length = 32) (h : Whole w B t (vs.flatMap VoteX.cells)) : VotesAt w (some ⟨B, 0, none⟩) vs := by
  refine .inr ⟨B, 0, rfl, fun j hj i u hu => h.cell ?_⟩
  rw [Nat.zero_add]
  clear h
  induction vs generalizing j with
  | nil => simp at hj
  | cons v r ih =>
    have hv := v.cells_length (hl v (by simp))
    rcases j with _ | j
    · simp only [List.getElem_cons_zero] at hu
      have hi := (List.getElem?_eq_some_iff.1 hu).1
      rw [List.flatMap_cons, Nat.zero_mul, Nat.zero_add, List.getElem?_append_left hi]; exact hu
    · have := ih (fun k hk => hl k (by simp [hk])) j (by simpa using hj) (by simpa using hu)
      rw [List.flatMap_cons, List.getElem?_append_right (by omega), hv, show (j + 1) * 37 + i - 37 = j * 37 + i from by omega]
      exact this

set_option maxRecDepth 100000 in
set_option maxHeartbeats 6400000 in
theorem speaks20 (w : World) : Calls Try.prog 8 #[] w fun e w' => e = .returned (.bool true) ∧ Same w w' := by
  have hlit := lit_votes w
  have hzv := Try.zeroVote
  obtain ⟨c1, hc1⟩ : ∃ c, exV1.cells.toArray = c := ⟨_, rfl⟩
  obtain ⟨c2, hc2⟩ : ∃ c, exV2.cells.toArray = c := ⟨_, rfl⟩
  have HC1 := Lib.hid hc1
  have HC2 := Lib.hid hc2
  obtain ⟨w1, hw1⟩ : ∃ w1, w.alloc (.cells (exV1.cells ++ exV2.cells).toArray 31) = w1 := ⟨_, rfl⟩
  have HS1 : Hid (Same w w1) := Lib.hid (by rw [← hw1]; exact (Keeps.refl _ _).alloc _)
  have HQ1 : Hid (Whole w1 w.heap.size 31 ([exV1, exV2].flatMap VoteX.cells)) := Lib.hid (by rw [show [exV1, exV2].flatMap VoteX.cells = exV1.cells ++ exV2.cells from by simp, ← hw1]; exact heap_alloc_new w _)
  rw [hw1, hc1, hc2] at hlit
  clear hw1 hc1 hc2
  go_enter Try.func8, Try.ntmps8
  go_wp2_with (first
    | (refine wpList_buildTo (by rfl) 31 #[(0, .const (.int .i64 0)), (1, .const (.int .u64 3)), (2, .const (.int .u64 1)), (3, .const (.int .u64 5))] (by rfl) _ (by rfl) c1 (by rw [← HC1.out]; kernel_rfl) ?_)
    | (refine wpList_buildTo (by rfl) 31 #[(0, .const (.int .i64 2)), (1, .const (.int .u64 3)), (2, .const (.int .u64 2)), (3, .const (.int .u64 3))] (by rfl) _ (by rfl) c2 (by rw [← HC2.out]; kernel_rfl) ?_)
    | (refine wpList_slice2 (by rfl) 27 _ _ (by rfl) c1 c2 (by rfl) (by rfl) _ w1 hlit ?_))
  ((with_reducible refine (choose_any (some ⟨w.heap.size, 0, none⟩) 2 2 [exV1, exV2] 3 3 w1 (votes_row (fun v hv => (ex_ok v hv).head) HQ1.out) ex_ok rfl (by omega) (by omega)).mono ?_); rintro e w2 ⟨hk2, rfl⟩)
  rw [ex_two]
  simp only
  have HSZ2 := Lib.hid (size_vote exV2 rfl)
  have HAL2 := Lib.hid (vote_all exV2)
  have HSE2 := Lib.hid (size_two vote0 exV2 rfl rfl)
  obtain ⟨v2, hv2⟩ : ∃ c, exV2.cells.toArray = c := ⟨_, rfl⟩
  obtain ⟨w3, hw3⟩ : ∃ w3, (w2.alloc (.cells vote0.cells.toArray 31)).setRow w2.heap.size exV2.cells.toArray = w3 := ⟨_, rfl⟩
  have HN3 : Hid ((w2.alloc (.cells vote0.cells.toArray 31)).heap[w2.heap.size]? = some (.cells vote0.cells.toArray 31 (0, 0))) := Lib.hid (heap_alloc_new w2 _)
  have HQ3 : Hid (Whole w3 w2.heap.size 31 exV2.cells) := Lib.hid (by rw [← hw3]; exact Whole.row (cs := vote0.cells) (heap_alloc_new w2 _))
  have HK3 : Hid (Same w1 w3) := Lib.hid (by rw [← hw3]; exact (hk2.alloc _).setRow _ _ (.inl (by have := hk2.size; omega)))
  rw [hv2] at hw3 HSZ2 HAL2 HSE2 ⊢
  have HW3 := Lib.hid hw3
  have HV1 : Hid (VotesAt w3 (some ⟨w.heap.size, 0, none⟩) [exV1]) := Lib.hid (by
    have h := (votes_row (fun v hv => (ex_ok v hv).head) HQ1.out).same HK3.out
    rcases h with h | ⟨g, off, e, h⟩
    · simp at h
    · exact .inr ⟨g, off, e, fun j hj => by
        obtain rfl : j = 0 := by simpa using hj
        exact h 0 (by simp)⟩)
  have HCH2 := Lib.hid (choose_any (some ⟨w.heap.size, 0, none⟩) 1 2 [exV1] 3 3 w3 HV1.out (fun v hv => ex_ok v (by simp at hv; subst hv; simp)) rfl (by omega) (by omega))
  obtain ⟨B2, hB2⟩ : ∃ b, w2.heap.size = b := ⟨_, rfl⟩
  rw [hB2] at HQ3
  have HB2 := Lib.hid hB2
  clear hk2 hw3 hv2 hB2
  go_wp2_with (first
    | (refine wpList_store_row (by rfl) 31 _ _ (by rfl) w2.heap.size v2 (by rfl) (by rfl) 31 vote0.cells.toArray HN3.out HSZ2.out HSE2.out HAL2.out ?_; rw [HW3.out, HB2.out]))
  ((with_reducible refine HCH2.out.mono ?_); rintro e w4 ⟨hk4, rfl⟩)
  rw [ex_one]
  simp only
  obtain ⟨w5, hw5⟩ : ∃ w5, (w4.alloc (.cells vote0.cells.toArray 31)).setRow w4.heap.size vote0.cells.toArray = w5 := ⟨_, rfl⟩
  have HN5 : Hid ((w4.alloc (.cells vote0.cells.toArray 31)).heap[w4.heap.size]? = some (.cells vote0.cells.toArray 31 (0, 0))) := Lib.hid (heap_alloc_new w4 _)
  have hk5 : Same w3 w5 := by rw [← hw5]; exact (hk4.alloc _).setRow _ _ (.inl (by have := hk4.size; omega))
  have HS5 : Hid (Same w w5) := Lib.hid ((HS1.out.trans HK3.out (fun _ _ e => e)).trans hk5 (fun _ _ e => e))
  have hnode := (vote_facts HQ3.out w5 hk5).1
  have hx2 : exV2.node = 2 := rfl
  rw [hx2] at hnode
  have HW5 := Lib.hid hw5
  clear hk4 hw5 hk5 hx2
  go_wp2_with (first
    | (refine wpList_store_row (by rfl) 31 _ _ (by rfl) w4.heap.size vote0.cells.toArray (by rfl) (by rfl) 31 vote0.cells.toArray HN5.out (size_vote vote0 rfl) rfl (vote_all vote0) ?_; rw [HW5.out]))
  go_ret
  exact ⟨rfl, HS5.out⟩

set_option maxRecDepth 100000 in
set_option maxHeartbeats 800000 in
theorem primary_any (view n : Int) (w : World) (hv : 0 ≤ view ∧ view ≤ 18446744073709551615) (hn : -9223372036854775808 ≤ n ∧ n ≤ 9223372036854775807) : Calls Try.prog 10 #[.int .u64 view, .int .i64 n] w fun e w' => e = .returned (.int .i64 (if n < 1 then 0 else view % n)) ∧ w' = w := by
  by_cases h1 : n < 1
  · rw [if_pos h1]
    go_enter Try.func10, Try.ntmps10
    go_wp2
    go_ret
    exact ⟨rfl, rfl⟩
  · rw [if_neg h1]
    have hn1 : 1 ≤ n := by omega
    have hm : 0 ≤ view % n ∧ view % n < n := ⟨Int.emod_nonneg _ (by omega), Int.emod_lt_of_pos _ (by omega)⟩
    have u1 : IntKind.u64.wrap n = n := IntWalk.u64_in n (by omega)
    have ht : view.tmod n = view % n := Int.tmod_eq_emod_of_nonneg hv.1
    have u2 : IntKind.u64.wrap (view % n) = view % n := IntWalk.u64_in _ (by omega)
    have u3 : IntKind.i64.wrap (view % n) = view % n := IntWalk.i64_in _ (by omega)
    go_enter Try.func10, Try.ntmps10
    go_wp2
    go_ret
    exact ⟨rfl, rfl⟩
set_option maxRecDepth 100000 in
set_option maxHeartbeats 1600000 in
theorem counts_any (view n : Int) (w : World) (hv : 0 ≤ view ∧ view ≤ 18446744073709551615) (hn : -9223372036854775808 ≤ n ∧ n ≤ 9223372036854775807) : Calls Try.prog 3 #[.int .i64 n, .int .u64 view] w fun e w' => e = .returned (.bool true) ∧ Same w w' := by
  go_enter Try.func3, Try.ntmps3
  go_wp2_with fail
  ((with_reducible refine (speaks20 _).mono ?_); rintro e w1 ⟨rfl, hk1⟩)
  have HS1 := Lib.hid hk1
  clear hk1
  go_wp2_with fail
  ((with_reducible refine (majority_any n _ hn).mono ?_); rintro e w2 ⟨rfl, rfl⟩)
  go_wp2_with fail
  ((with_reducible refine (primary_any view n _ hv hn).mono ?_); rintro e w3 ⟨rfl, rfl⟩)
  by_cases h1 : n < 1
  · have hm : maj n = 1 := by unfold maj; rw [if_pos h1]
    rw [if_pos h1, hm]
    clear hm
    go_wp2
    go_ret
    exact ⟨rfl, HS1.out⟩
  · rw [if_neg h1]
    have hn1 : 1 ≤ n := by omega
    have hmod : 0 ≤ view % n ∧ view % n < n := ⟨Int.emod_nonneg _ (by omega), Int.emod_lt_of_pos _ (by omega)⟩
    have u1 : IntKind.u64.wrap n = n := IntWalk.u64_in n (by omega)
    have ht : view.tmod n = view % n := Int.tmod_eq_emod_of_nonneg hv.1
    have u2 : IntKind.u64.wrap (view % n) = view % n := IntWalk.u64_in _ (by omega)
    obtain ⟨m, hm⟩ : ∃ m, maj n = m := ⟨_, rfl⟩
    have hm2 : m = n / 2 + 1 := by rw [← hm]; unfold maj; rw [if_neg h1]
    have hmb : 1 ≤ m ∧ m ≤ n ∧ n < 2 * m := by omega
    have HM := Lib.hid hm
    have hsub : n - m < m := by omega
    have HREF := Lib.hid (refMajority_any n w3 hn)
    rw [hm] at HREF ⊢
    generalize view % n = r at *
    clear hm hm2
    go_wp2_with fail
    ((with_reducible refine HREF.out.mono ?_); rintro e w4 ⟨rfl, rfl⟩)
    go_wp2
    go_ret
    exact ⟨rfl, HS1.out⟩
end Go.Proofs.Yteidjpnmfmcfkaa
