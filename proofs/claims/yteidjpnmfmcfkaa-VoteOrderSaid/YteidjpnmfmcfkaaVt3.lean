/- The document's order of votes. -/
import Derived.Test.YteidjpnmfmcfkaaVt2
namespace Go.Proofs.Yteidjpnmfmcfkaa
open Go.RowKit
set_option linter.unusedVariables false

set_option maxRecDepth 100000 in
set_option maxHeartbeats 6400000 in
theorem above_any (xa xb : VoteX) (w : World) (ha : xa.head.length = 32) (hb : xb.head.length = 32) : Calls Try.prog 23 #[.agg xa.cells.toArray, .agg xb.cells.toArray] w fun e w' => e = .returned (.bool (above xa xb)) ∧ Same w w' := by
  have HS2 : Hid (Same w ((w.alloc (.cells xa.cells.toArray 31)).alloc (.cells xb.cells.toArray 31))) := Lib.hid (((Keeps.refl _ _).alloc _).alloc _)
  obtain ⟨a0, a1, a2, a3, a4, ra⟩ := vote_facts (w := (w.alloc (.cells xa.cells.toArray 31)).alloc (.cells xb.cells.toArray 31)) (B := w.heap.size) (t := 31) (v := xa) (heap_alloc2_old w _ _) _ (Keeps.refl _ _)
  obtain ⟨b0, b1, b2, b3, b4, rb⟩ := vote_facts (w := (w.alloc (.cells xa.cells.toArray 31)).alloc (.cells xb.cells.toArray 31)) (B := w.heap.size + 1) (t := 31) (v := xb) (heap_alloc2_new w _ _) _ (Keeps.refl _ _)
  have HRA := Lib.hid ra
  have HRB := Lib.hid rb
  have HLA := Lib.hid ha
  have HLB := Lib.hid hb
  have HZA : Hid ((Try.prog.info? 29).map (fun i => i.size) = some (u8s xa.head).length) := Lib.hid (by rw [Try.sizeHashV, u8s_length, ha])
  have HZB : Hid ((Try.prog.info? 29).map (fun i => i.size) = some (u8s xb.head).length) := Lib.hid (by rw [Try.sizeHashV, u8s_length, hb])
  have nn : ∀ {p : Prop}, p → ¬ ¬ p := fun h k => k h
  have HAV : Hid (above xa xb = if xa.normal ≠ xb.normal then decide (xb.normal < xa.normal) else if xa.gen ≠ xb.gen then decide (xb.gen < xa.gen) else if xa.head ≠ xb.head then Op.bytesLess xb.head xa.head else if xa.node ≠ xb.node then decide (xa.node < xb.node) else decide (xb.commit < xa.commit)) := Lib.hid rfl
  obtain ⟨r, hr⟩ : ∃ r, above xa xb = r := ⟨_, rfl⟩
  rw [hr] at HAV ⊢
  clear ra rb ha hb hr
  by_cases h1 : xa.normal = xb.normal
  case neg =>
    have HRV : Hid (r = decide (xb.normal < xa.normal)) := Lib.hid (by rw [HAV.out, if_pos h1])
    have t1 : (xa.normal == xb.normal) = false := by simpa using h1
    have t2 : (xa.normal != xb.normal) = true := by simpa using h1
    clear HAV
    go_enter Try.func23, Try.ntmps23
    go_wp2
    go_ret
    exact ⟨by rw [HRV.out]; first | rfl | simp, HS2.out⟩
  by_cases h2 : xa.gen = xb.gen
  case neg =>
    have HRV : Hid (r = decide (xb.gen < xa.gen)) := Lib.hid (by rw [HAV.out, if_neg (nn h1), if_pos h2])
    have t1 : (xa.gen == xb.gen) = false := by simpa using h2
    have t2 : (xa.gen != xb.gen) = true := by simpa using h2
    clear HAV
    rw [h1] at a2
    clear h1
    go_enter Try.func23, Try.ntmps23
    go_wp2
    go_ret
    exact ⟨by rw [HRV.out]; first | rfl | simp, HS2.out⟩
  by_cases h3 : xa.head = xb.head
  case neg =>
    have HRV : Hid (r = Op.bytesLess xb.head xa.head) := Lib.hid (by rw [HAV.out, if_neg (nn h1), if_neg (nn h2), if_pos h3])
    have HEQ : Hid (∀ wz, (Op.equalIn 10000 29 (.agg (u8s xa.head).toArray) (.agg (u8s xb.head).toArray)).run Try.prog wz = .ok false wz) := Lib.hid (fun wz => by rw [hash_equal _ _ HLA.out HLB.out, decide_eq_false h3])
    clear HAV
    rw [h1] at a2
    rw [h2] at a3
    clear h1 h2 h3
    go_enter Try.func23, Try.ntmps23
    go_wp2_with (first
      | (refine wpList_load_mid rfl 29 (.tmp 25) (by rfl) (w.heap.size) 5 (by rfl) (u8s xa.head) _ HRA.out Try.underlying29 rfl HZA.out ?_)
      | (refine wpList_load_mid rfl 29 (.tmp 27) (by rfl) (w.heap.size + 1) 5 (by rfl) (u8s xb.head) _ HRB.out Try.underlying29 rfl HZB.out ?_)
      | (refine wpList_neq_is (by rfl) (.tmp 26) (.tmp 28) 29 29 (by rfl) (u8s xa.head).toArray (u8s xb.head).toArray false (by rfl) (by rfl) Try.hashGuardH HEQ.out ?_)
      | (refine wpList_load_mid rfl 29 (.tmp 30) (by rfl) (w.heap.size + 1) 5 (by rfl) (u8s xb.head) _ HRB.out Try.underlying29 rfl HZB.out ?_)
      | (refine wpList_load_mid rfl 29 (.tmp 32) (by rfl) (w.heap.size) 5 (by rfl) (u8s xa.head) _ HRA.out Try.underlying29 rfl HZA.out ?_))
    ((with_reducible refine (less_any xb.head xa.head _ HLB.out HLA.out).mono ?_); rintro e w3 ⟨rfl, hk3⟩)
    have HS3 := Lib.hid (HS2.out.trans hk3 (fun _ _ e => e))
    clear hk3
    go_wp2
    go_ret
    exact ⟨by rw [HRV.out]; rfl, HS3.out⟩
  have HEQ : Hid (∀ wz, (Op.equalIn 10000 29 (.agg (u8s xa.head).toArray) (.agg (u8s xb.head).toArray)).run Try.prog wz = .ok true wz) := Lib.hid (fun wz => by rw [hash_equal _ _ HLA.out HLB.out, decide_eq_true h3])
  by_cases h4 : xa.node = xb.node
  case neg =>
    have HRV : Hid (r = decide (xa.node < xb.node)) := Lib.hid (by rw [HAV.out, if_neg (nn h1), if_neg (nn h2), if_neg (nn h3), if_pos h4])
    have t1 : (xa.node == xb.node) = false := by simpa using h4
    have t2 : (xa.node != xb.node) = true := by simpa using h4
    clear HAV
    rw [h1] at a2
    rw [h2] at a3
    clear h1 h2 h3
    go_enter Try.func23, Try.ntmps23
    go_wp2_with (first
      | (refine wpList_load_mid rfl 29 (.tmp 25) (by rfl) (w.heap.size) 5 (by rfl) (u8s xa.head) _ HRA.out Try.underlying29 rfl HZA.out ?_)
      | (refine wpList_load_mid rfl 29 (.tmp 27) (by rfl) (w.heap.size + 1) 5 (by rfl) (u8s xb.head) _ HRB.out Try.underlying29 rfl HZB.out ?_)
      | (refine wpList_neq_is (by rfl) (.tmp 26) (.tmp 28) 29 29 (by rfl) (u8s xa.head).toArray (u8s xb.head).toArray true (by rfl) (by rfl) Try.hashGuardH HEQ.out ?_))
    go_ret
    exact ⟨by rw [HRV.out]; first | rfl | simp, HS2.out⟩
  have HRV : Hid (r = decide (xb.commit < xa.commit)) := Lib.hid (by rw [HAV.out, if_neg (nn h1), if_neg (nn h2), if_neg (nn h3), if_neg (nn h4)])
  clear HAV
  rw [h1] at a2
  rw [h2] at a3
  rw [h4] at a0
  clear h1 h2 h3 h4
  go_enter Try.func23, Try.ntmps23
  go_wp2_with (first
      | (refine wpList_load_mid rfl 29 (.tmp 25) (by rfl) (w.heap.size) 5 (by rfl) (u8s xa.head) _ HRA.out Try.underlying29 rfl HZA.out ?_)
      | (refine wpList_load_mid rfl 29 (.tmp 27) (by rfl) (w.heap.size + 1) 5 (by rfl) (u8s xb.head) _ HRB.out Try.underlying29 rfl HZB.out ?_)
      | (refine wpList_neq_is (by rfl) (.tmp 26) (.tmp 28) 29 29 (by rfl) (u8s xa.head).toArray (u8s xb.head).toArray true (by rfl) (by rfl) Try.hashGuardH HEQ.out ?_))
  go_ret
  exact ⟨by rw [HRV.out]; first | rfl | simp, HS2.out⟩
end Go.Proofs.Yteidjpnmfmcfkaa
