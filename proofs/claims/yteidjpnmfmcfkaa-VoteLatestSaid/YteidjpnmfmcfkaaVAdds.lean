/- The walk of VoteAdds. -/
import Derived.Test.YteidjpnmfmcfkaaVRef1
namespace Go.Proofs.Yteidjpnmfmcfkaa
open Go.ChangeShapes Go.WideShapes Go.ChangeAt Go.RowKit Go.Deep
set_option linter.unusedVariables false

theorem icmp_neg {a b : Int} : icmp a b < 0 ↔ a < b := by
  unfold icmp; split
  · constructor <;> intro h <;> omega
  · split <;> constructor <;> intro h <;> omega
theorem addOf_ins (vs : List VoteX) (v : VoteX) (h : RiseK VoteX.node vs) : addOf vs v = insK VoteX.node mgV v vs := by
  have hk := insK_search VoteX.node mgV v vote0 vs (bsI vs v.node) (keyF vs v.node) (fun t ht => by
    unfold keyF
    rw [icmp_neg, List.getD_eq_getElem?_getD, List.getElem?_map, List.getElem?_eq_getElem ht]; rfl) rfl h
  rw [← hk]
  unfold addOf bsFound
  have e : (vs.map VoteX.node).getD (bsI vs v.node) 0 = (vs.getD (bsI vs v.node) vote0).node := by
    rw [List.getD_eq_getElem?_getD, List.getD_eq_getElem?_getD, List.getElem?_map]
    cases vs[bsI vs v.node]? <;> rfl
  rw [e]
  by_cases hc : (decide (bsI vs v.node < vs.length) && decide ((vs.getD (bsI vs v.node) vote0).node = v.node)) = true
  · rw [if_pos hc, if_pos hc]
    unfold mgV
    split
    · rfl
    · simp only [Bool.and_eq_true, decide_eq_true_eq] at hc
      rw [List.getD_eq_getElem?_getD, List.getElem?_eq_getElem hc.1, Option.getD_some, List.set_getElem_self]
  · rw [if_neg hc, if_neg hc]
theorem rise_adj {α : Type} (key : α → Int) (vs : List α) (h : ∀ t (ht : t + 1 < vs.length), key (vs[t]'(by omega)) < key vs[t + 1]) : RiseK key vs := by
  refine List.pairwise_iff_getElem.2 fun a b ha hb hab => ?_
  obtain ⟨d, rfl⟩ : ∃ d, b = a + 1 + d := ⟨b - a - 1, by omega⟩
  clear hab
  induction d with
  | zero => exact h a hb
  | succ d ih => exact Int.lt_trans (ih (by omega)) (h (a + 1 + d) (by omega))

theorem open_vote {H : Type} {enc : TypeId × Value → H} {W : World} {base : Nat} {v : Value} {d : DataW H} {ps : List MemPlace} (hok : Value.okWide Try.prog W .any base 31 v) (h : DataW.Trod enc Try.prog W 0 (fun _ => true) true 31 v d ps) :
    ∃ s : VoteX, s.ok ∧ v = .agg s.cells.toArray := by
  obtain ⟨cs, rfl, _⟩ := okWide_struct Try.voteIs hok
  obtain ⟨fuel, hf⟩ := h
  obtain ⟨s, he, hs⟩ := open_vote_trod hf
  refine ⟨s, hs, ?_⟩
  rw [← he]
  simp [Value.cells]

set_option maxRecDepth 100000 in
set_option maxHeartbeats 25600000 in
theorem adds_any (ao : Option Addr) (n c : Nat) (vs : List VoteX) (v : VoteX) (w : World) (h : VotesAt w ao vs) (hok : ∀ v ∈ vs, v.ok) (hv : v.ok) (hn : vs.length = n) :
    Calls Try.prog 4 #[.slice ao n c, .agg v.cells.toArray] w fun e w' => e = .returned (.bool true) ∧ Same w w' := by
  have HV := Lib.hid h
  have HOK := Lib.hid hok
  have HVO := Lib.hid hv
  have HN := Lib.hid hn
  have HD := Lib.hid (fun v hv => (hok v hv).head)
  have HSV := Lib.hid (size_vote v hv.head)
  obtain ⟨B, hB⟩ : ∃ B, w.heap.size = B := ⟨_, rfl⟩
  obtain ⟨w1, hw1⟩ : ∃ w1, w.alloc (.cells v.cells.toArray 31) = w1 := ⟨_, rfl⟩
  have HW1 : Hid (Same w w1) := Lib.hid (by rw [← hw1]; exact (Keeps.refl _ _).alloc _)
  have HB1 : Hid (Whole w1 B 31 v.cells) := Lib.hid (by rw [← hw1, ← hB]; exact heap_alloc_new w _)
  have HW := Lib.hid hw1
  have HBB := Lib.hid hB
  clear h hok hv hn hw1 hB
  go_enter Try.func4, Try.ntmps4
  go_wp2_with fail
  rw [HW.out, HBB.out]
  ((with_reducible refine (speaks20 _).mono ?_); rintro e w2 ⟨rfl, hk2⟩)
  have HS2 := Lib.hid (HW1.out.trans hk2 (fun _ _ e => e))
  have HB2 := Lib.hid (HB1.out.keep hk2 (fun e => e))
  clear hk2
  by_cases hbig : (50 : Int) < (n : Int)
  · go_wp2
    go_ret
    exact ⟨rfl, HS2.out⟩
  have hn50 : n ≤ 50 := by omega
  obtain ⟨g3, c3, w3, hrun, hown, hg3⟩ := append_votes (w2.alloc (.cells #[] 31)) w2.heap.size w2.heap.size 0 [] vs ao c (fun v hv => by simp at hv) HD.out (own_votes0 w2) ((HV.out.same HS2.out).same ((Keeps.refl _ _).alloc _)) (by rw [HN.out]; simp; omega) (by simp)
  rw [List.nil_append, HN.out] at hrun
  simp only [List.length_nil] at hrun
  have hk3 : Same w2 w3 := ((Keeps.refl (fun _ => False) w2).alloc _).grown hg3 (fun q e1 e2 => by simp only [Option.some.injEq] at e1; omega)
  have HS3 := Lib.hid (HS2.out.trans hk3 (fun _ _ e => e))
  have HB3 := Lib.hid (HB2.out.keep hk3 (fun e => e))
  have HV3 : Hid (VotesAt w3 (some ⟨g3, 0, none⟩) vs) := Lib.hid (votes_own HD.out hown)
  have HRUN := Lib.hid hrun
  clear hrun hown hg3 hk3
  go_wp2_with (first
    | (at_builtin; refine wpList_append_run (by rfl) _ _ 27 (by rfl) _ _ _ w3 (by rfl) (by rfl) HRUN.out ?_)
    | (refine wpList_load_row_w (by rfl) 31 (.tmp 3) (by rfl) B (by rfl) 31 v.cells.toArray (0, 0) _ HB3.out Try.underlying31 rfl HSV.out ?_))
  ((with_reducible refine (add_any (some ⟨g3, 0, none⟩) n c3 vs v w3 HV3.out HOK.out HVO.out HN.out (by omega) (fun e => by cases e)).mono ?_); rintro e w4 ⟨g4, c4, rfl, hv4, hk4⟩)
  obtain ⟨ads, has⟩ : ∃ ads, addOf vs v = ads := ⟨_, rfl⟩
  rw [has] at hv4 ⊢
  have HAS := Lib.hid has
  have HAO : Hid (∀ x ∈ ads, x.ok) := Lib.hid (by rw [← has]; exact addOf_ok vs v HOK.out HVO.out)
  have HAL : Hid (ads.length ≤ 60) := Lib.hid (by rw [← has]; have := addOf_len vs v; have := HN.out; omega)
  have HV4 := Lib.hid hv4
  have HS4 := Lib.hid (HS3.out.trans hk4 (fun _ _ e => e))
  have HB4 := Lib.hid (HB3.out.keep hk4 (fun e => e))
  have HV34 := Lib.hid (HV3.out.same hk4)
  clear hv4 hk4 has
  go_wp2_with fail
  ((with_reducible refine (refSame_any (some ⟨g3, 0, none⟩) ao n n c3 c vs vs w4 HV34.out (HV.out.same HS4.out) HD.out HD.out HN.out HN.out (by omega) (by omega)).mono ?_); rintro e w5 ⟨rfl, hk5⟩)
  rw [decide_eq_true rfl]
  have HS5 := Lib.hid (HS4.out.trans hk5 (fun _ _ e => e))
  have HB5 := Lib.hid (HB4.out.keep hk5 (fun e => e))
  have HV5 := Lib.hid (HV4.out.same hk5)
  clear hk5
  go_wp2
  go_loopw [7] (fun i wr => ∃ p : Nat, p ≤ n ∧ i = .int .i64 ((p : Int) + 1) ∧ Hid (∀ t (ht : t + 1 < vs.length), t < p → vs[t].node < vs[t + 1].node) ∧ Hid (Same w5 wr)) (fun i _ => n + 1 - (intOf i).toNat)
  case atStart => exact ⟨0, by omega, rfl, Lib.hid (fun t ht h => by omega), Lib.hid (Keeps.refl _ _)⟩
  case round =>
    obtain ⟨p, hp, rfl, HT, HS⟩ := hrel
    have HWR := Lib.hid (HS5.out.trans HS.out (fun _ _ e => e))
    by_cases hlt : p + 1 < n
    · have hl1 : p < vs.length := by rw [HN.out]; omega
      have hl2 : p + 1 < vs.length := by rw [HN.out]; omega
      obtain ⟨g, off, e1, hra⟩ := (HV.out.same HWR.out).at hl1
      obtain ⟨g', off', e2, hrb⟩ := (HV.out.same HWR.out).at hl2
      rw [e1] at e2
      simp only [Option.some.injEq, Addr.mk.injEq, and_true] at e2
      obtain ⟨rfl, rfl⟩ := e2
      subst e1
      have HT1 : Hid (vs[p].node < vs[p + 1].node → ∀ t (ht : t + 1 < vs.length), t < p + 1 → vs[t].node < vs[t + 1].node) := Lib.hid (fun h t ht h2 => by
        by_cases e : t = p
        · subst e; exact h
        · exact HT.out t ht (by omega))
      generalize vs[p] = x at hra HT1
      generalize vs[p + 1] = y at hrb HT1
      have cx := hra 0 (.int .i64 x.node) rfl
      have cy := hrb 0 (.int .i64 y.node) rfl
      rw [Nat.add_zero] at cx cy
      have hin : (p : Int) + 1 < (n : Int) := by omega
      have hin2 : (p : Int) < (n : Int) := by omega
      have mixed : Try.prog.follows .mixedOrders = true := by kernel_rfl
      have hwr1 : IntKind.i64.wrap (p : Int) = (p : Int) := by rw [IntKind.wrap_i64]; omega
      have hex : (p : Int) + 1 - 1 = (p : Int) := by omega
      clear hra hrb hl1 hl2
      by_cases hxy : x.node < y.node
      · have hnb : ¬ y.node ≤ x.node := by omega
        have HT2 := Lib.hid (HT1.out hxy)
        go_wp2
        go_region
        go_wp2
        go_roundw
        case rel => exact ⟨p + 1, by omega, by go_num, HT2, Lib.hid (HS.out.drew)⟩
        case measure => simp [intOf]; omega
      · have hnb : y.node ≤ x.node := by omega
        go_wp2
        go_region
        go_wp2
        go_ret
        exact ⟨rfl, HWR.out.drew⟩
    · have hnlt : ¬ (p : Int) + 1 < (n : Int) := by omega
      have HRK : Hid (RiseK VoteX.node vs) := Lib.hid (rise_adj _ _ (fun t ht => HT.out t ht (by have := HN.out; omega)))
      have HB6 := Lib.hid (HB5.out.keep HS.out (fun e => e))
      go_wp2_with (first
        | (refine wpList_load_row_w (by rfl) 31 (.tmp 3) (by rfl) B (by rfl) 31 v.cells.toArray (0, 0) _ HB6.out Try.underlying31 rfl HSV.out ?_))
      ((with_reducible refine (refAdd_any ao n c vs v wr (HV.out.same HWR.out) HOK.out HVO.out HN.out (by omega)).mono ?_); rintro e w7 ⟨g7, c7, rfl, hv7, hk7⟩)
      have hEQ : refAddK VoteX.node mgV vs v = ads := by rw [refAddK_ins _ _ _ _ HRK.out, ← addOf_ins _ _ HRK.out, HAS.out]
      rw [hEQ] at hv7 ⊢
      have HV7 := Lib.hid hv7
      have HV57 := Lib.hid ((HV5.out.same HS.out).same hk7)
      have HWR7 := Lib.hid (HWR.out.trans hk7 (fun _ _ e => e))
      have HAH : Hid (∀ x ∈ ads, x.head.length = 32) := Lib.hid (fun x hx => (HAO.out x hx).head)
      obtain ⟨m, hm⟩ : ∃ m, ads.length = m := ⟨_, rfl⟩
      rw [hm] at HAL ⊢
      have HM := Lib.hid hm
      clear hv7 hk7 hEQ hm
      go_wp2_with fail
      ((with_reducible refine (refSame_any (some ⟨g4, 0, none⟩) (some ⟨g7, 0, none⟩) m m c4 c7 ads ads w7 HV57.out HV7.out HAH.out HAH.out HM.out HM.out (by have := HAL.out; omega) (by have := HAL.out; omega)).mono ?_); rintro e w8 ⟨rfl, hk8⟩)
      rw [decide_eq_true rfl]
      have HWR8 := Lib.hid (HWR7.out.trans hk8 (fun _ _ e => e))
      clear hk8
      go_wp2
      go_ret
      exact ⟨rfl, HWR8.out⟩
end Go.Proofs.Yteidjpnmfmcfkaa
