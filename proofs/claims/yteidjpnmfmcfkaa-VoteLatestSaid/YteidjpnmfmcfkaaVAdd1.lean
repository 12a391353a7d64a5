/- vote.Add. -/
import Derived.Test.YteidjpnmfmcfkaaIns2
namespace Go.Proofs.Yteidjpnmfmcfkaa
open Go.RowKit
set_option linter.unusedVariables false

def addOf (vs : List VoteX) (v : VoteX) : List VoteX :=
  if bsFound vs v.node then (if (vs.getD (bsI vs v.node) vote0).view ≤ v.view then vs.set (bsI vs v.node) v else vs) else vs.take (bsI vs v.node) ++ v :: vs.drop (bsI vs v.node)
theorem bsI_le (vs : List VoteX) (t : Int) : bsI vs t ≤ vs.length := bsAt_le _ _ _ _ (Nat.zero_le _)
theorem addOf_ok (vs : List VoteX) (v : VoteX) (h : ∀ x ∈ vs, x.ok) (hv : v.ok) : ∀ x ∈ addOf vs v, x.ok := fun x hx => by
  unfold addOf at hx
  split at hx
  · split at hx
    · rcases List.mem_or_eq_of_mem_set hx with h1 | rfl
      · exact h x h1
      · exact hv
    · exact h x hx
  · rcases List.mem_append.1 hx with h1 | h1
    · exact h x (List.mem_of_mem_take h1)
    · rcases List.mem_cons.1 h1 with rfl | h1
      · exact hv
      · exact h x (List.mem_of_mem_drop h1)
theorem addOf_len (vs : List VoteX) (v : VoteX) : (addOf vs v).length ≤ vs.length + 1 := by
  unfold addOf
  split
  · split
    · simp
    · omega
  · simp only [List.length_append, List.length_take, List.length_cons, List.length_drop]; omega

set_option maxRecDepth 100000 in
set_option maxHeartbeats 12800000 in
theorem add_any (ao : Option Addr) (n c : Nat) (vs : List VoteX) (v : VoteX) (w : World) (h : VotesAt w ao vs) (hok : ∀ v ∈ vs, v.ok) (hv : v.ok) (hn : vs.length = n) (hl : n ≤ 1000) (hnil : ao = none → n = 0 ∧ c = 0) :
    Calls Try.prog 12 #[.slice ao n c, .agg v.cells.toArray] w fun e w' => ∃ g c', e = .returned (.slice (some ⟨g, 0, none⟩) (addOf vs v).length c') ∧ VotesAt w' (some ⟨g, 0, none⟩) (addOf vs v) ∧ Same w w' := by
  obtain ⟨ads, has⟩ : ∃ ads, addOf vs v = ads := ⟨_, rfl⟩
  rw [has]
  have HAS := Lib.hid has
  have HV := Lib.hid h
  have HOK := Lib.hid hok
  have HN := Lib.hid hn
  have HD := Lib.hid (fun v hv => (hok v hv).head)
  have HVH := Lib.hid hv.head
  have HNIL := Lib.hid hnil
  have HAL := Lib.hid (vote_all v)
  have HSV := Lib.hid (size_vote v hv.head)
  have HCL : Hid (v.cells.toArray.size = 37) := Lib.hid (by rw [List.size_toArray, v.cells_length hv.head])
  obtain ⟨i, hi⟩ : ∃ i, bsI vs v.node = i := ⟨_, rfl⟩
  have hin : i ≤ n := by rw [← hi, ← hn]; exact bsI_le _ _
  have HI := Lib.hid hi
  obtain ⟨B, hB⟩ : ∃ B, w.heap.size = B := ⟨_, rfl⟩
  obtain ⟨w1, hw1⟩ : ∃ w1, w.alloc (.cells v.cells.toArray 31) = w1 := ⟨_, rfl⟩
  have HW1 : Hid (Same w w1) := Lib.hid (by rw [← hw1]; exact (Keeps.refl _ _).alloc _)
  have HB1 : Hid (Whole w1 B 31 v.cells) := Lib.hid (by rw [← hw1, ← hB]; exact heap_alloc_new w _)
  have HW := Lib.hid hw1
  have HBB := Lib.hid hB
  obtain ⟨ie, hie, hz0, hz1, hz2⟩ := info_partsV Try.infoVoteR
  have HZ := Lib.hid hz0
  clear has h hok hv hn hnil hi hw1 hB hz0
  go_enter Try.func12, Try.ntmps12
  go_wp2_with fail
  rw [HW.out, HBB.out]
  ((with_reducible refine (clone_any ao n c vs w1 (HV.out.same HW1.out) HD.out HN.out (by omega) HNIL.out).mono ?_); rintro e w2 ⟨v', rfl, hown, hk2⟩)
  have HOW := Lib.hid hown
  have HW2 := Lib.hid (HW1.out.trans hk2 (fun _ _ e => e))
  have HK2 := Lib.hid hk2
  have HB2 := Lib.hid (HB1.out.keep hk2 (fun e => e))
  obtain ⟨ao', c', rfl, hvs, hform⟩ : ∃ ao' c', v' = .slice ao' n c' ∧ VotesAt w2 ao' vs ∧ (0 < n → ∃ g cur, ao' = some ⟨g, 0, none⟩ ∧ w1.heap.size ≤ g ∧ w2.heap[g]? = some (.cells cur 31 (0, 0)) ∧ n ≤ c' ∧ c' ≤ maxLen ∧ cur.size = c' * 37 ∧ cur.toList.take (n * 37) = vs.flatMap VoteX.cells) := by
    rcases hown.2 with ⟨rfl, h0⟩ | ⟨g, cap, cur, rfl, hb0, hg, hc1, hc2, hc3, hc4⟩
    · subst h0
      exact ⟨none, 0, rfl, .inl (List.length_eq_zero_iff.1 HN.out), fun h => by omega⟩
    · refine ⟨some ⟨g, 0, none⟩, cap, rfl, votes_own (base := w1.heap.size) (cap := cap) HD.out (by rw [HN.out]; exact hown), fun _ => ⟨g, cur, rfl, hb0, hg, hc1, hc2, hc3, hc4⟩⟩
  have HV2 := Lib.hid hvs
  have HFM := Lib.hid hform
  have hcB : w2.cell? ⟨B, 0, none⟩ = some (.int .i64 v.node) ∧ w2.cell? ⟨B, 1, none⟩ = some (.int .u64 v.view) := by
    have h0 : w2.heap[B]? = some (.cells v.cells.toArray 31 (0, 0)) := HB2.out
    simp only [World.cell?, h0]
    exact ⟨rfl, rfl⟩
  obtain ⟨hc0, hc1⟩ := hcB
  clear hown hk2 hvs hform
  go_wp2_with fail
  ((with_reducible refine (bsf_any ao' n c' vs v.node w2 HV2.out HD.out HN.out (by omega)).mono ?_); rintro e w3 ⟨rfl, hk3⟩)
  have HW3 := Lib.hid (HW2.out.trans hk3 (fun _ _ e => e))
  have HB3 := Lib.hid (HB2.out.keep hk3 (fun e => e))
  have HK3 := Lib.hid hk3
  have HOW3 := Lib.hid (own_keeps hk3 HOW.out (fun _ _ e => e))
  have HADD : Hid (ads = if bsFound vs v.node then (if (vs.getD i vote0).view ≤ v.view then vs.set i v else vs) else vs.take i ++ v :: vs.drop i) := Lib.hid (by rw [← HAS.out]; unfold addOf; rw [HI.out])
  have hFD : bsFound vs v.node = true → i < n := fun h => by
    unfold bsFound at h
    rw [HI.out, HN.out] at h
    simp only [Bool.and_eq_true, decide_eq_true_eq] at h
    exact h.1
  rw [HI.out]
  generalize bsFound vs v.node = b at *
  clear hk3 hc0 hc1
  cases b with
  | false =>
    rw [if_neg (by simp)] at HADD
    clear hFD
    obtain ⟨w4, hw4⟩ : ∃ w4, w3.alloc (.cells v.cells.toArray 31) = w4 := ⟨_, rfl⟩
    have HW4 := Lib.hid hw4
    have HK4 : Hid (Same w3 w4) := Lib.hid (by rw [← hw4]; exact (Keeps.refl _ _).alloc _)
    have HN4 : Hid (w4.heap[w3.heap.size]? = some (.cells v.cells.toArray 31 (0, 0))) := Lib.hid (by rw [← hw4]; exact heap_alloc_new w3 _)
    have HLE : Hid (w1.heap.size ≤ w4.heap.size) := Lib.hid (Nat.le_trans HK2.out.size (Nat.le_trans HK3.out.size HK4.out.size))
    have HINS := Lib.hid (insert_any w4 w1.heap.size (.slice ao' n c') n (vs.flatMap VoteX.cells) v.cells i w3.heap.size hin (own_keeps HK4.out HOW3.out (fun _ _ e => e)) HLE.out (by omega) (flat_one vs) (v.cells_length HVH.out) HN4.out
      (fun e => by have := (HOW3.out.lt _ e).2; omega) (by have := HAL.out; rw [List.all_toArray, List.all_eq_true] at this; exact this))
    clear hw4
    go_wp2_with (first
      | (refine wpList_load_row_w (by rfl) 31 (.tmp 3) (by rfl) B (by rfl) 31 v.cells.toArray (0, 0) _ HB3.out Try.underlying31 rfl HSV.out ?_)
      | (refine wpList_buildOne (by rfl) 27 31 _ (by rfl) v.cells.toArray ie _ (by rfl) Try.underlying27 hie HZ.out (by rw [hz1, HCL.out]) (by rw [HCL.out]; omega) (by rw [HCL.out]; omega) ?_; rw [HW4.out]))
    ((with_reducible refine HINS.out.mono ?_); rintro e w5 ⟨g5, c5, rfl, ⟨b5, hown5⟩, hk5, hat5⟩)
    have HP : Hid ((n + 1 = ads.length) ∧ VotesAt w5 (some ⟨g5, 0, none⟩) ads ∧ Same w w5) := Lib.hid (by
      have e1 := flatK_ins VoteX.cells 37 vs (fun v hv => v.cells_length (HD.out v hv)) i v
      have e2 : ads.length = n + 1 := by rw [HADD.out]; simp only [List.length_append, List.length_take, List.length_cons, List.length_drop, HN.out]; omega
      refine ⟨e2.symm, ?_, ((HW3.out.trans HK4.out (fun _ _ e => e)).trans hk5 (fun q hq e => ?_))⟩
      · rw [e1, ← HADD.out] at hown5
        refine votes_own (base := b5) (cap := c5) (fun x hx => ?_) (by rw [e2]; exact hown5)
        rw [HADD.out] at hx
        rcases List.mem_append.1 hx with h1 | h1
        · exact HD.out x (List.mem_of_mem_take h1)
        · rcases List.mem_cons.1 h1 with rfl | h1
          · exact HVH.out
          · exact HD.out x (List.mem_of_mem_drop h1)
      · have h1 := (HOW3.out.lt _ e).1
        have h2 := HW1.out.size
        omega)
    clear hown5 hk5 hat5
    go_wp2
    go_ret
    exact ⟨g5, c5, by rw [HP.out.1]; rfl, HP.out.2.1, HP.out.2.2⟩
  | true =>
    have hlt := hFD rfl
    rw [if_pos rfl] at HADD
    obtain ⟨g, cur, rfl, hb0, hg2, hc1, hc2, hc3, hc4⟩ := HFM.out (by omega)
    have hil : i < vs.length := by rw [HN.out]; exact hlt
    have hg3 : w3.heap[g]? = some (.cells cur 31 (0, 0)) := HK3.out.obj hg2 (fun e => e)
    have HG3 := Lib.hid hg3
    have HCU : Hid (n ≤ c' ∧ c' ≤ maxLen ∧ cur.size = c' * 37 ∧ cur.toList.take (n * 37) = vs.flatMap VoteX.cells ∧ w1.heap.size ≤ g) := Lib.hid ⟨hc1, hc2, hc3, hc4, hb0⟩
    have HGD : Hid (vs.getD i vote0 = vs[i]) := Lib.hid (by rw [List.getD_eq_getElem?_getD, List.getElem?_eq_getElem hil]; rfl)
    obtain ⟨x, hx⟩ : ∃ x, vs[i] = x := ⟨_, rfl⟩
    have hcN : w3.cell? ⟨g, i * 37 + 1, none⟩ = some (.int .u64 x.view) := by
      refine cell_of_rowL hg3 _ _ ?_
      have h1 : (vs.flatMap VoteX.cells)[i * 37 + 1]? = some (.int .u64 x.view) := by
        rw [← List.getElem?_drop, flatK_drop VoteX.cells 37 vs (fun v hv => v.cells_length (HD.out v hv)), List.drop_eq_getElem_cons hil, hx, List.flatMap_cons]
        rfl
      rw [← hc4, List.getElem?_take] at h1
      split at h1
      · exact h1
      · cases h1
    have hcV : w3.cell? ⟨B, 1, none⟩ = some (.int .u64 v.view) := by
      have h0 : w3.heap[B]? = some (.cells v.cells.toArray 31 (0, 0)) := HB3.out
      simp only [World.cell?, h0]
      rfl
    rw [HGD.out, hx] at HADD
    have HBN : Hid (w.heap.size ≤ g) := Lib.hid (Nat.le_trans HW1.out.size hb0)
    have mixed : Try.prog.follows .mixedOrders = true := by kernel_rfl
    have hc64 : c' ≤ 9223372036854775807 := by unfold maxLen at hc2; omega
    clear hb0 hg2 hc1 hc2 hc3 hc4 hil hg3 hx hFD HGD
    by_cases hge : x.view ≤ v.view
    · rw [if_pos hge] at HADD
      obtain ⟨row, hrow⟩ : ∃ row, (cur.toList.take (i * 37) ++ v.cells.toArray.toList ++ cur.toList.drop (i * 37 + v.cells.toArray.toList.length)).toArray = row := ⟨_, rfl⟩
      have HP : Hid (∀ w4 : World, w4.heap = (w3.setRow g row).heap → w4.os = w3.os → w4.tape = w3.tape → w4.output = w3.output → (n = ads.length) ∧ VotesAt w4 (some ⟨g, 0, none⟩) ads ∧ Same w w4) := Lib.hid (fun w4 e1 e2 e3 e4 => by
        obtain ⟨q1, q2, q3, q4, q5⟩ := HCU.out
        have hcl : v.cells.length = 37 := v.cells_length HVH.out
        have hn37 : n * 37 ≤ cur.toList.length := by rw [Array.length_toList, q3]; exact Nat.mul_le_mul_right _ q1
        have hi37 : (i + 1) * 37 ≤ n * 37 := Nat.mul_le_mul_right _ hlt
        have hlen : ads.length = n := by rw [HADD.out, List.length_set, HN.out]
        have h3 : w4.heap[g]? = some (.cells row 31 (0, 0)) := by rw [e1]; exact setRow_heap w3 g cur row 31 (0, 0) HG3.out
        have hrs : row.size = cur.size := by rw [← hrow, List.size_toArray, row_splice_len _ _ _ (by rw [List.toList_toArray, hcl]; omega), Array.length_toList]
        have ht : row.toList.take (n * 37) = ads.flatMap VoteX.cells := by
          rw [← hrow, List.toList_toArray, List.toList_toArray, take_splice _ _ _ 37 _ hcl (by omega) hn37, q4, HADD.out, ← flatK_set VoteX.cells 37 vs (fun v hv => v.cells_length (HD.out v hv)) i (by rw [HN.out]; exact hlt) v]
          congr 2; omega
        refine ⟨hlen.symm, votes_own (base := w1.heap.size) (cap := c') (fun y hy => ?_) ⟨?_, .inr ⟨g, c', row, rfl, q5, h3, by rw [hlen]; exact q1, q2, by rw [hrs]; exact q3, by rw [hlen]; exact ht⟩⟩, ?_⟩
        · rw [HADD.out] at hy
          rcases List.mem_or_eq_of_mem_set hy with h1 | rfl
          · exact HD.out y h1
          · exact HVH.out
        · rw [← ht, hlen, List.length_take, Array.length_toList, hrs, q3]; omega
        · have hk := HW3.out.setRow g row (.inl HBN.out)
          exact ⟨e2.trans HW3.out.os, e3.trans HW3.out.tape, e4.trans HW3.out.output, by rw [e1]; exact hk.size, fun k h1 h2 => by rw [e1]; exact hk.block k h1 h2⟩)
      have HROW := Lib.hid hrow
      have HFIT : Hid (i * 37 + v.cells.toArray.size ≤ cur.size) := Lib.hid (by rw [HCL.out, HCU.out.2.2.1]; have := Nat.mul_le_mul_right 37 HCU.out.1; omega)
      clear hrow
      go_wp2
      go_region
      go_wp2_with (first
        | (refine wpList_load_row_w (by rfl) 31 (.tmp 3) (by rfl) B (by rfl) 31 v.cells.toArray (0, 0) _ HB3.out Try.underlying31 rfl HSV.out ?_)
        | (refine wpList_store_in (by rfl) 31 _ _ (by rfl) g (i * 37) 31 v.cells.toArray cur (by rfl) (by rfl) HG3.out HFIT.out HSV.out HAL.out ?_; rw [HROW.out]))
      go_ret
      obtain ⟨p1, p2, p3⟩ := HP.out (w3.drew.setRow g row) rfl rfl rfl rfl
      exact ⟨g, c', by rw [← p1]; rfl, p2, p3⟩
    · rw [if_neg hge] at HADD
      have HP : Hid (∀ w4 : World, w4.heap = w3.heap → w4.os = w3.os → w4.tape = w3.tape → w4.output = w3.output → (n = ads.length) ∧ VotesAt w4 (some ⟨g, 0, none⟩) ads ∧ Same w w4) := Lib.hid (fun w4 e1 e2 e3 e4 => by
        have hk : Same w3 w4 := ⟨e2, e3, e4, by rw [e1]; exact Nat.le_refl _, fun k _ _ => by rw [e1]⟩
        rw [HADD.out]
        exact ⟨HN.out.symm, HV2.out.same (HK3.out.trans hk (fun _ _ e => e)), HW3.out.trans hk (fun _ _ e => e)⟩)
      go_wp2
      go_region
      go_wp2
      go_ret
      obtain ⟨p1, p2, p3⟩ := HP.out w3.drew rfl rfl rfl rfl
      exact ⟨g, c', by rw [← p1]; rfl, p2, p3⟩
end Go.Proofs.Yteidjpnmfmcfkaa
