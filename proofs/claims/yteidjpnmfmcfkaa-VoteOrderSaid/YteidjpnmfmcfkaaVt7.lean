/- What the document's Choose does. -/
import Derived.Test.YteidjpnmfmcfkaaVt5
namespace Go.Proofs.Yteidjpnmfmcfkaa
open Go.RowKit Go.Maps
set_option linter.unusedVariables false

theorem mem_step (view : Int) (s : CS) (u : VoteX) (x : Int) : x ∈ (s.step view u).nodes ↔ x ∈ s.nodes ∨ (u.view = view ∧ u.node = x) := by
  unfold CS.step
  by_cases h : u.view = view
  · rw [if_pos h]
    simp only [h, true_and]
    by_cases hm : u.node ∈ s.nodes
    · rw [if_pos hm]
      constructor
      · exact .inl
      · rintro (h1 | h1)
        · exact h1
        · rw [← h1]; exact hm
    · rw [if_neg hm]
      simp [eq_comm]
  · rw [if_neg h]
    simp [h]
theorem range_sameV {w w' : World} {b o : Nat} {cs : List Value} (h : w.rangeAt b o cs) (k : Same w w') : w'.rangeAt b o cs := rangeAt_keep h k (fun _ e => e)
theorem range_cells {w : World} {g o : Nat} {v : VoteX} (h : w.rangeAt g o v.cells) : w.cell? ⟨g, o, none⟩ = some (.int .i64 v.node) ∧ w.cell? ⟨g, o + 1, none⟩ = some (.int .u64 v.view) ∧ w.cell? ⟨g, o + 4, none⟩ = some (.int .u64 v.commit) :=
  ⟨h 0 _ rfl, h 1 _ rfl, h 4 _ rfl⟩

set_option maxRecDepth 100000 in
set_option maxHeartbeats 51200000 in
theorem refChoose_any (ao : Option Addr) (n c : Nat) (vs : List VoteX) (view nodes : Int) (w : World) (h : VotesAt w ao vs) (hok : ∀ v ∈ vs, v.ok) (hn : vs.length = n) (hl : n ≤ 1000000) (hnod : -9223372036854775808 ≤ nodes ∧ nodes ≤ 9223372036854775807) :
    Calls Try.prog 16 #[.slice ao n c, .int .u64 view, .int .i64 nodes] w (ChPost w view nodes vs) := by
  obtain ⟨B, hB⟩ : ∃ q, w.heap.size + 1 = q := ⟨_, rfl⟩
  obtain ⟨w0, hw0⟩ : ∃ w0, ((w.alloc (.cells vote0.cells.toArray 31)).alloc (.cells vote0.cells.toArray 31)).setRow (w.heap.size + 1) vote0.cells.toArray = w0 := ⟨_, rfl⟩
  have HS0 : Hid (Same w w0) := Lib.hid (by rw [← hw0]; exact (((Keeps.refl _ _).alloc _).alloc _).setRow _ _ (.inl (by omega)))
  have HB0 : Hid (Whole w0 B 31 vote0.cells) := Lib.hid (by rw [← hw0, ← hB]; exact Whole.row (cs := vote0.cells) (heap_alloc2_new w _ _))
  have HR0 : Hid (Whole w0 w.heap.size 31 vote0.cells) := Lib.hid (by rw [← hw0]; exact ((Keeps.refl (fun q => q = w.heap.size + 1) _).setRow _ _ (.inr rfl)).obj (heap_alloc2_old w _ _) (by omega))
  have HN0 : Hid (((w.alloc (.cells vote0.cells.toArray 31)).alloc (.cells vote0.cells.toArray 31)).heap[w.heap.size + 1]? = some (.cells vote0.cells.toArray 31 (0, 0))) := Lib.hid (heap_alloc2_new w _ _)
  have HZ0 : Hid (w0.heap.size = w.heap.size + 2) := Lib.hid (by rw [← hw0]; simp)
  have HW0 := Lib.hid hw0
  have HMB := Lib.hid hB
  have HV := Lib.hid h
  have HOK := Lib.hid hok
  have HN := Lib.hid hn
  have HGOOD := Lib.hid (good_of view vs (fun v hv => (hok v hv).head))
  have hzv := Try.zeroVote
  clear h hok hn hw0 hB
  go_enter Try.func16, Try.ntmps16
  go_wp2_with (first
    | (refine wpList_buildTo (by rfl) 31 _ (by rfl) _ (by rfl) vote0.cells.toArray (by kernel_rfl) ?_)
    | (refine wpList_store_row (by rfl) 31 _ _ (by rfl) (w.heap.size + 1) vote0.cells.toArray (by rfl) (by rfl) 31 vote0.cells.toArray HN0.out (size_vote _ vote0_head) rfl (vote_all _) ?_; rw [HW0.out, HMB.out]))
  try rw [HW0.out, HMB.out]
  go_loopw [9, 10, 12, 13] (fun ct cv an i wr => ∃ j : Nat, j ≤ n ∧ i = .int .i64 j ∧ ct = .int .i64 ((csOf view (vs.take j)).nodes.length : Int) ∧ cv = .int .u64 (csOf view (vs.take j)).commit ∧ an = .bool (csOf view (vs.take j)).best.isSome ∧ Whole wr B 31 (csOf view (vs.take j)).row.cells ∧ Keeps (fun q => q = B) w0 wr) (fun _ _ _ i _ => n - (intOf i).toNat)
  case atStart => exact ⟨0, by omega, rfl, rfl, rfl, rfl, HB0.out, Keeps.refl _ _⟩
  case round =>
    obtain ⟨wo, rfl⟩ : ∃ wo : World, wo = wr := ⟨_, rfl⟩
    obtain ⟨j, hj, rfl, rfl, rfl, rfl, hb1, hk1⟩ := hrel
    obtain ⟨s, hs⟩ : ∃ s, csOf view (vs.take j) = s := ⟨_, rfl⟩
    rw [hs] at hb1 ⊢
    have HB1 := Lib.hid hb1
    have HK1 := Lib.hid hk1
    have HG : Hid (s.good j) := Lib.hid (by rw [← hs]; exact HGOOD.out j (by rw [HN.out]; exact hj))
    have HSJ := Lib.hid hs
    have HSW : Hid (Same w wo) := Lib.hid (HS0.out.trans hk1 (fun q hq e => by have := HMB.out; omega))
    clear hb1 hk1 hs
    by_cases hlt : j < n
    · have hjl : j < vs.length := by rw [HN.out]; exact hlt
      obtain ⟨g, off, rfl, hra⟩ := (HV.out.same HSW.out).at hjl
      have HTK : Hid (csOf view (vs.take (j + 1)) = s.step view vs[j]) := Lib.hid (by rw [csOf_snoc (List.getElem?_eq_getElem hjl), HSJ.out])
      have HVO : Hid vs[j].ok := Lib.hid (HOK.out _ (List.getElem_mem hjl))
      generalize vs[j] = v at hra HTK HVO
      have HRA := Lib.hid hra
      have HAL := Lib.hid (vote_all v)
      have HSL := Lib.hid (size_voteL v HVO.out.head)
      have HSV := Lib.hid (size_vote v HVO.out.head)
      have hview := (range_cells hra).2.1
      have hjn : (j : Int) < (n : Int) := by omega
      clear hra hjl
      obtain ⟨l, hln⟩ : ∃ l, s.nodes = l := ⟨_, rfl⟩
      obtain ⟨rw0, hrw⟩ : ∃ r, s.row = r := ⟨_, rfl⟩
      obtain ⟨cm, hcm⟩ : ∃ x, s.commit = x := ⟨_, rfl⟩
      have hll : l.length ≤ 1000000 := by have := HG.out.len; rw [hln] at this; omega
      by_cases hv : v.view = view
      case neg =>
        have t1 : (v.view == view) = false := by simpa using hv
        have t2 : (v.view != view) = true := by simpa using hv
        have HST : Hid (csOf view (vs.take (j + 1)) = s) := Lib.hid (by rw [HTK.out]; unfold CS.step; rw [if_neg hv])
        have HEQS := Lib.hid (And.intro hln hcm)
        rw [hln, hcm]
        obtain ⟨an, han⟩ : ∃ x, s.best.isSome = x := ⟨_, rfl⟩
        have HAN := Lib.hid han
        rw [han]
        clear hv hln hrw hcm han
        go_wp2
        go_roundw
        case rel => exact ⟨j + 1, by omega, by go_num, by rw [HST.out, HEQS.out.1], by rw [HST.out, HEQS.out.2], by rw [HST.out, HAN.out], by rw [HST.out]; exact HB1.out, HK1.out⟩
        case measure => simp [intOf]; omega
      have HSTP : Hid (∀ R, CS.up s.best v = R → s.step view v = ⟨some R, if cm < v.commit then v.commit else cm, if v.node ∈ l then l else l ++ [v.node]⟩) := Lib.hid (fun R hR => by
        unfold CS.step
        rw [if_pos hv, hR, hln, hcm])
      have HROW : Hid (∀ b, s.best = some b → b = rw0) := Lib.hid (fun b hb => by rw [← hrw, CS.row, hb]; rfl)
      have HRH : Hid (rw0.head.length = 32) := Lib.hid (by rw [← hrw]; exact CS.row_head HG.out)
      have HSR : Hid (rw0.cells.toArray.size = v.cells.toArray.size) := Lib.hid (size_two rw0 v HRH.out HVO.out.head)
      have HLN := Lib.hid hln
      rw [hrw] at HB1
      rw [hv] at hview
      rw [hln, hcm]
      have HVIEW := Lib.hid hv
      clear hv hln hrw hcm
      go_wp2
      go_loopw [14, 15] (fun fr i wr => ∃ k : Nat, k ≤ j ∧ i = .int .i64 k ∧ fr = .bool (!decide (v.node ∈ (csOf view (vs.take k)).nodes)) ∧ Same wo wr) (fun _ i _ => j - (intOf i).toNat)
      case atStart => exact ⟨0, by omega, rfl, by simp [csOf], Keeps.refl _ _⟩
      case round =>
        obtain ⟨k, hkj, rfl, rfl, hs2⟩ := hrel
        have HS2 := Lib.hid hs2
        clear hs2
        by_cases hlk : k < j
        · have hkl : k < vs.length := by rw [HN.out]; omega
          obtain ⟨g2, off2, heq, hru⟩ := (HV.out.same (HSW.out.trans HS2.out (fun _ _ e => e))).at hkl
          simp only [Option.some.injEq, Addr.mk.injEq, and_true] at heq
          obtain ⟨rfl, rfl⟩ := heq
          have HMS : Hid (∀ x, x ∈ (csOf view (vs.take (k + 1))).nodes ↔ x ∈ (csOf view (vs.take k)).nodes ∨ (vs[k].view = view ∧ vs[k].node = x)) := Lib.hid (fun x => by rw [csOf_snoc (List.getElem?_eq_getElem hkl)]; exact mem_step _ _ _ _)
          generalize vs[k] = u at hru HMS
          have HUC : Hid (∀ w', Same wr w' → w'.cell? ⟨g, off + k * 37, none⟩ = some (.int .i64 u.node) ∧ w'.cell? ⟨g, off + k * 37 + 1, none⟩ = some (.int .u64 u.view) ∧ w'.cell? ⟨g, off + k * 37 + 4, none⟩ = some (.int .u64 u.commit)) := Lib.hid (fun w' kk => range_cells (range_sameV hru kk))
          have HVC : Hid (∀ w', Same wr w' → w'.cell? ⟨g, off + j * 37, none⟩ = some (.int .i64 v.node) ∧ w'.cell? ⟨g, off + j * 37 + 1, none⟩ = some (.int .u64 v.view) ∧ w'.cell? ⟨g, off + j * 37 + 4, none⟩ = some (.int .u64 v.commit)) := Lib.hid (fun w' kk => range_cells (range_sameV (range_sameV HRA.out HS2.out) kk))
          have hkn : (k : Int) < (j : Int) := by omega
          obtain ⟨uv, huv⟩ : ∃ x, u.view = x := ⟨_, rfl⟩
          obtain ⟨un, hun⟩ : ∃ x, u.node = x := ⟨_, rfl⟩
          obtain ⟨vn, hvn⟩ : ∃ x, v.node = x := ⟨_, rfl⟩
          obtain ⟨fq, hfq⟩ : ∃ x, (!decide (v.node ∈ (csOf view (vs.take k)).nodes)) = x := ⟨_, rfl⟩
          rw [huv, hun] at HUC HMS
          rw [hvn] at HVC
          rw [hvn] at hfq ⊢
          rw [hfq]
          have HFQ := Lib.hid hfq
          clear hru hkl huv hun hvn hfq
          by_cases hA : uv = view
          · have hA2 := hA.symm
            clear hA
            subst hA2
            by_cases hC : un = vn
            · have hC2 := hC.symm
              clear hC
              subst hC2
              have HFN : Hid ((!decide (vn ∈ (csOf view (vs.take (k + 1))).nodes)) = false) := Lib.hid (by
                have : vn ∈ (csOf view (vs.take (k + 1))).nodes := (HMS.out vn).2 (.inr ⟨rfl, rfl⟩)
                simp [this])
              go_wp2
              refine wp_region_do [[], [], [0, 1], [2], [3], [], [4, 5], [6], [7], [7], [8, 9, 7], [10, 7], [11, 7], [7], [7], [13, 14, 7], [15, 7], [16, 7], [12, 17, 7], [7, 18]]
                [some 35, some 36, some 37, some 38, some 39, some 40, some 41, some 42, some 43, some 44, some 45, some 46, some 47, some 48, some 49, some 50, some 51, some 52, some 53, some 54]
                [.is (.slice (some ⟨g, off, none⟩) n c), .is (.int .i64 (k : Int)), .is (.pointer (some ⟨g, off + k * 37, none⟩)), .is (.pointer (some ⟨g, off + k * 37 + 1, none⟩)), .is (.int .u64 view), .is (.int .u64 view), .is (.bool true), .is (.bool true), .is (.slice (some ⟨g, off, none⟩) n c), .is (.int .i64 (k : Int)), .is (.pointer (some ⟨g, off + k * 37, none⟩)), .is (.pointer (some ⟨g, off + k * 37, none⟩)), .is (.int .i64 vn), .is (.slice (some ⟨g, off, none⟩) n c), .is (.int .i64 (j : Int)), .is (.pointer (some ⟨g, off + j * 37, none⟩)), .is (.pointer (some ⟨g, off + j * 37, none⟩)), .is (.int .i64 vn), .is (.bool true), .is (.bool true)]
                10 _ _ 91 20 (by kernel_rfl) (by rfl) (by rfl) (by kernel_rfl) (by kernel_rfl) (by decide) ?_ ?_
              · refine ⟨?_, ?_, ?_, ?_, ?_, ?_, ?_, ?_, ?_, ?_, ?_, ?_, ?_, ?_, ?_, ?_, ?_, ?_, ?_, ?_, trivial⟩
                · intro a w' K hs' hdep hfr hK
                  have f0 := hfr 0 (by decide)
                  exact plan_do (by rfl) (plan_yield (i := 0) (V := fun _ _ v => v = (.slice (some ⟨g, off, none⟩) n c : Value)) (.slice (some ⟨g, off, none⟩) n c) (by go_simp) rfl hK)
                · intro a w' K hs' hdep hfr hK
                  have f15 := hfr 15 (by decide)
                  exact plan_do (by rfl) (plan_yield (i := 1) (V := fun _ _ v => v = (.int .i64 (k : Int) : Value)) (.int .i64 (k : Int)) (by go_simp) rfl hK)
                · intro a w' K hs' hdep hfr hK
                  have e35 : a.tmps[35]?.getD undef = (.slice (some ⟨g, off, none⟩) n c) := hdep 0 (by decide) 35 rfl
                  have e36 : a.tmps[36]?.getD undef = (.int .i64 (k : Int)) := hdep 1 (by decide) 36 rfl
                  have hin : (k : Int) < (n : Int) := by omega
                  exact plan_do (by rfl) (plan_yield (i := 2) (V := fun _ _ v => v = (.pointer (some ⟨g, off + k * 37, none⟩) : Value)) (.pointer (some ⟨g, off + k * 37, none⟩)) (by go_simp) rfl hK)
                · intro a w' K hs' hdep hfr hK
                  have e37 : a.tmps[37]?.getD undef = (.pointer (some ⟨g, off + k * 37, none⟩)) := hdep 2 (by decide) 37 rfl
                  exact plan_do (by rfl) (plan_yield (i := 3) (V := fun _ _ v => v = (.pointer (some ⟨g, off + k * 37 + 1, none⟩) : Value)) (.pointer (some ⟨g, off + k * 37 + 1, none⟩)) (by go_simp) rfl hK)
                · intro a w' K hs' hdep hfr hK
                  have e38 : a.tmps[38]?.getD undef = (.pointer (some ⟨g, off + k * 37 + 1, none⟩)) := hdep 3 (by decide) 38 rfl
                  have cl := (HUC.out w' hs').2.1
                  exact plan_do (by rfl) (plan_yield (i := 4) (V := fun _ _ v => v = (.int .u64 view : Value)) (.int .u64 view) (by go_simp) rfl hK)
                · intro a w' K hs' hdep hfr hK
                  have f1 := hfr 1 (by decide)
                  exact plan_do (by rfl) (plan_yield (i := 5) (V := fun _ _ v => v = (.int .u64 view : Value)) (.int .u64 view) (by go_simp) rfl hK)
                · intro a w' K hs' hdep hfr hK
                  have e39 : a.tmps[39]?.getD undef = (.int .u64 view) := hdep 4 (by decide) 39 rfl
                  have e40 : a.tmps[40]?.getD undef = (.int .u64 view) := hdep 5 (by decide) 40 rfl
                  exact plan_do (by rfl) (plan_yield (i := 6) (V := fun _ _ v => v = (.bool true : Value)) (.bool true) (by go_simp) rfl hK)
                · intro a w' K hs' hdep hfr hK
                  have e41 : a.tmps[41]?.getD undef = (.bool true) := hdep 6 (by decide) 41 rfl
                  exact plan_do (by rfl) (plan_yield (i := 7) (V := fun _ _ v => v = (.bool true : Value)) (.bool true) (by go_simp) rfl hK)
                · intro a w' K hs' hdep hfr hK
                  have e42 : a.tmps[42]?.getD undef = (.bool true) := hdep 7 (by decide) 42 rfl
                  have f0 := hfr 0 (by decide)
                  exact plan_do (wanted_of 7 42 true rfl rfl e42) (plan_yield (i := 8) (V := fun _ _ v => v = (.slice (some ⟨g, off, none⟩) n c : Value)) (.slice (some ⟨g, off, none⟩) n c) (by go_simp) rfl hK)
                · intro a w' K hs' hdep hfr hK
                  have e42 : a.tmps[42]?.getD undef = (.bool true) := hdep 7 (by decide) 42 rfl
                  have f15 := hfr 15 (by decide)
                  exact plan_do (wanted_of 7 42 true rfl rfl e42) (plan_yield (i := 9) (V := fun _ _ v => v = (.int .i64 (k : Int) : Value)) (.int .i64 (k : Int)) (by go_simp) rfl hK)
                · intro a w' K hs' hdep hfr hK
                  have e43 : a.tmps[43]?.getD undef = (.slice (some ⟨g, off, none⟩) n c) := hdep 8 (by decide) 43 rfl
                  have e44 : a.tmps[44]?.getD undef = (.int .i64 (k : Int)) := hdep 9 (by decide) 44 rfl
                  have e42 : a.tmps[42]?.getD undef = (.bool true) := hdep 7 (by decide) 42 rfl
                  have hin : (k : Int) < (n : Int) := by omega
                  exact plan_do (wanted_of 7 42 true rfl rfl e42) (plan_yield (i := 10) (V := fun _ _ v => v = (.pointer (some ⟨g, off + k * 37, none⟩) : Value)) (.pointer (some ⟨g, off + k * 37, none⟩)) (by go_simp) rfl hK)
                · intro a w' K hs' hdep hfr hK
                  have e45 : a.tmps[45]?.getD undef = (.pointer (some ⟨g, off + k * 37, none⟩)) := hdep 10 (by decide) 45 rfl
                  have e42 : a.tmps[42]?.getD undef = (.bool true) := hdep 7 (by decide) 42 rfl
                  exact plan_do (wanted_of 7 42 true rfl rfl e42) (plan_yield (i := 11) (V := fun _ _ v => v = (.pointer (some ⟨g, off + k * 37, none⟩) : Value)) (.pointer (some ⟨g, off + k * 37, none⟩)) (by go_simp) rfl hK)
                · intro a w' K hs' hdep hfr hK
                  have e46 : a.tmps[46]?.getD undef = (.pointer (some ⟨g, off + k * 37, none⟩)) := hdep 11 (by decide) 46 rfl
                  have e42 : a.tmps[42]?.getD undef = (.bool true) := hdep 7 (by decide) 42 rfl
                  have cl := (HUC.out w' hs').1
                  exact plan_do (wanted_of 7 42 true rfl rfl e42) (plan_yield (i := 12) (V := fun _ _ v => v = (.int .i64 vn : Value)) (.int .i64 vn) (by go_simp) rfl hK)
                · intro a w' K hs' hdep hfr hK
                  have e42 : a.tmps[42]?.getD undef = (.bool true) := hdep 7 (by decide) 42 rfl
                  have f0 := hfr 0 (by decide)
                  exact plan_do (wanted_of 7 42 true rfl rfl e42) (plan_yield (i := 13) (V := fun _ _ v => v = (.slice (some ⟨g, off, none⟩) n c : Value)) (.slice (some ⟨g, off, none⟩) n c) (by go_simp) rfl hK)
                · intro a w' K hs' hdep hfr hK
                  have e42 : a.tmps[42]?.getD undef = (.bool true) := hdep 7 (by decide) 42 rfl
                  have f13 := hfr 13 (by decide)
                  exact plan_do (wanted_of 7 42 true rfl rfl e42) (plan_yield (i := 14) (V := fun _ _ v => v = (.int .i64 (j : Int) : Value)) (.int .i64 (j : Int)) (by go_simp) rfl hK)
                · intro a w' K hs' hdep hfr hK
                  have e48 : a.tmps[48]?.getD undef = (.slice (some ⟨g, off, none⟩) n c) := hdep 13 (by decide) 48 rfl
                  have e49 : a.tmps[49]?.getD undef = (.int .i64 (j : Int)) := hdep 14 (by decide) 49 rfl
                  have e42 : a.tmps[42]?.getD undef = (.bool true) := hdep 7 (by decide) 42 rfl
                  have hin : (j : Int) < (n : Int) := by omega
                  exact plan_do (wanted_of 7 42 true rfl rfl e42) (plan_yield (i := 15) (V := fun _ _ v => v = (.pointer (some ⟨g, off + j * 37, none⟩) : Value)) (.pointer (some ⟨g, off + j * 37, none⟩)) (by go_simp) rfl hK)
                · intro a w' K hs' hdep hfr hK
                  have e50 : a.tmps[50]?.getD undef = (.pointer (some ⟨g, off + j * 37, none⟩)) := hdep 15 (by decide) 50 rfl
                  have e42 : a.tmps[42]?.getD undef = (.bool true) := hdep 7 (by decide) 42 rfl
                  exact plan_do (wanted_of 7 42 true rfl rfl e42) (plan_yield (i := 16) (V := fun _ _ v => v = (.pointer (some ⟨g, off + j * 37, none⟩) : Value)) (.pointer (some ⟨g, off + j * 37, none⟩)) (by go_simp) rfl hK)
                · intro a w' K hs' hdep hfr hK
                  have e51 : a.tmps[51]?.getD undef = (.pointer (some ⟨g, off + j * 37, none⟩)) := hdep 16 (by decide) 51 rfl
                  have e42 : a.tmps[42]?.getD undef = (.bool true) := hdep 7 (by decide) 42 rfl
                  have cl := (HVC.out w' hs').1
                  exact plan_do (wanted_of 7 42 true rfl rfl e42) (plan_yield (i := 17) (V := fun _ _ v => v = (.int .i64 vn : Value)) (.int .i64 vn) (by go_simp) rfl hK)
                · intro a w' K hs' hdep hfr hK
                  have e47 : a.tmps[47]?.getD undef = (.int .i64 vn) := hdep 12 (by decide) 47 rfl
                  have e52 : a.tmps[52]?.getD undef = (.int .i64 vn) := hdep 17 (by decide) 52 rfl
                  have e42 : a.tmps[42]?.getD undef = (.bool true) := hdep 7 (by decide) 42 rfl
                  exact plan_do (wanted_of 7 42 true rfl rfl e42) (plan_yield (i := 18) (V := fun _ _ v => v = (.bool true : Value)) (.bool true) (by go_simp) rfl hK)
                · intro a w' K hs' hdep hfr hK
                  have e42 : a.tmps[42]?.getD undef = (.bool true) := hdep 7 (by decide) 42 rfl
                  have e53 : a.tmps[53]?.getD undef = (.bool true) := hdep 18 (by decide) 53 rfl
                  exact plan_do (by rfl) (plan_yield (i := 19) (V := fun _ _ v => v = (.bool true : Value)) (.bool true) (by go_simp) rfl hK)
              intro a wz hkz hdef hsz hv hfr
              have e54 : a.tmps[54]?.getD undef = (.bool true) := hv 19 54 rfl
              have he := act_eq a _ [some 35, some 36, some 37, some 38, some 39, some 40, some 41, some 42, some 43, some 44, some 45, some 46, some 47, some 48, some 49, some 50, some 51, some 52, some 53, some 54] 91 rfl hsz hdef hfr (fun d => a.tmps[d]?.getD undef) (fun _ _ => rfl)
              obtain ⟨v35, h35⟩ : ∃ v, a.tmps[35]?.getD undef = v := ⟨_, rfl⟩
              obtain ⟨v36, h36⟩ : ∃ v, a.tmps[36]?.getD undef = v := ⟨_, rfl⟩
              obtain ⟨v37, h37⟩ : ∃ v, a.tmps[37]?.getD undef = v := ⟨_, rfl⟩
              obtain ⟨v38, h38⟩ : ∃ v, a.tmps[38]?.getD undef = v := ⟨_, rfl⟩
              obtain ⟨v39, h39⟩ : ∃ v, a.tmps[39]?.getD undef = v := ⟨_, rfl⟩
              obtain ⟨v40, h40⟩ : ∃ v, a.tmps[40]?.getD undef = v := ⟨_, rfl⟩
              obtain ⟨v41, h41⟩ : ∃ v, a.tmps[41]?.getD undef = v := ⟨_, rfl⟩
              obtain ⟨v42, h42⟩ : ∃ v, a.tmps[42]?.getD undef = v := ⟨_, rfl⟩
              obtain ⟨v43, h43⟩ : ∃ v, a.tmps[43]?.getD undef = v := ⟨_, rfl⟩
              obtain ⟨v44, h44⟩ : ∃ v, a.tmps[44]?.getD undef = v := ⟨_, rfl⟩
              obtain ⟨v45, h45⟩ : ∃ v, a.tmps[45]?.getD undef = v := ⟨_, rfl⟩
              obtain ⟨v46, h46⟩ : ∃ v, a.tmps[46]?.getD undef = v := ⟨_, rfl⟩
              obtain ⟨v47, h47⟩ : ∃ v, a.tmps[47]?.getD undef = v := ⟨_, rfl⟩
              obtain ⟨v48, h48⟩ : ∃ v, a.tmps[48]?.getD undef = v := ⟨_, rfl⟩
              obtain ⟨v49, h49⟩ : ∃ v, a.tmps[49]?.getD undef = v := ⟨_, rfl⟩
              obtain ⟨v50, h50⟩ : ∃ v, a.tmps[50]?.getD undef = v := ⟨_, rfl⟩
              obtain ⟨v51, h51⟩ : ∃ v, a.tmps[51]?.getD undef = v := ⟨_, rfl⟩
              obtain ⟨v52, h52⟩ : ∃ v, a.tmps[52]?.getD undef = v := ⟨_, rfl⟩
              obtain ⟨v53, h53⟩ : ∃ v, a.tmps[53]?.getD undef = v := ⟨_, rfl⟩
              simp only [putAll, e54, h35, h36, h37, h38, h39, h40, h41, h42, h43, h44, h45, h46, h47, h48, h49, h50, h51, h52, h53, List.setIfInBounds_toArray, List.set_cons_zero, List.set_cons_succ] at he
              clear e54 h35 h36 h37 h38 h39 h40 h41 h42 h43 h44 h45 h46 h47 h48 h49 h50 h51 h52 h53 hdef hsz hv hfr
              subst he
              have HKZ := Lib.hid hkz
              clear hkz
              go_wp2
              go_roundw
              case rel => exact ⟨k + 1, by omega, by go_num, by rw [HFN.out], HS2.out.trans HKZ.out (fun _ _ e => e)⟩
              case measure => simp [intOf]; omega
            · have HNN := Lib.hid hC
              have HFN : Hid ((!decide (vn ∈ (csOf view (vs.take (k + 1))).nodes)) = fq) := Lib.hid (by
                rw [← HFQ.out]
                congr 1
                exact decide_eq_decide.2 ((HMS.out vn).trans ⟨fun e => e.elim id (fun e => absurd e.2 HNN.out), .inl⟩))
              clear hC
              go_wp2
              refine wp_region_do [[], [], [0, 1], [2], [3], [], [4, 5], [6], [7], [7], [8, 9, 7], [10, 7], [11, 7], [7], [7], [13, 14, 7], [15, 7], [16, 7], [12, 17, 7], [7, 18]]
                [some 35, some 36, some 37, some 38, some 39, some 40, some 41, some 42, some 43, some 44, some 45, some 46, some 47, some 48, some 49, some 50, some 51, some 52, some 53, some 54]
                [.is (.slice (some ⟨g, off, none⟩) n c), .is (.int .i64 (k : Int)), .is (.pointer (some ⟨g, off + k * 37, none⟩)), .is (.pointer (some ⟨g, off + k * 37 + 1, none⟩)), .is (.int .u64 view), .is (.int .u64 view), .is (.bool true), .is (.bool true), .is (.slice (some ⟨g, off, none⟩) n c), .is (.int .i64 (k : Int)), .is (.pointer (some ⟨g, off + k * 37, none⟩)), .is (.pointer (some ⟨g, off + k * 37, none⟩)), .is (.int .i64 un), .is (.slice (some ⟨g, off, none⟩) n c), .is (.int .i64 (j : Int)), .is (.pointer (some ⟨g, off + j * 37, none⟩)), .is (.pointer (some ⟨g, off + j * 37, none⟩)), .is (.int .i64 vn), .is (.bool false), .is (.bool false)]
                10 _ _ 91 20 (by kernel_rfl) (by rfl) (by rfl) (by kernel_rfl) (by kernel_rfl) (by decide) ?_ ?_
              · refine ⟨?_, ?_, ?_, ?_, ?_, ?_, ?_, ?_, ?_, ?_, ?_, ?_, ?_, ?_, ?_, ?_, ?_, ?_, ?_, ?_, trivial⟩
                · intro a w' K hs' hdep hfr hK
                  have f0 := hfr 0 (by decide)
                  exact plan_do (by rfl) (plan_yield (i := 0) (V := fun _ _ v => v = (.slice (some ⟨g, off, none⟩) n c : Value)) (.slice (some ⟨g, off, none⟩) n c) (by go_simp) rfl hK)
                · intro a w' K hs' hdep hfr hK
                  have f15 := hfr 15 (by decide)
                  exact plan_do (by rfl) (plan_yield (i := 1) (V := fun _ _ v => v = (.int .i64 (k : Int) : Value)) (.int .i64 (k : Int)) (by go_simp) rfl hK)
                · intro a w' K hs' hdep hfr hK
                  have e35 : a.tmps[35]?.getD undef = (.slice (some ⟨g, off, none⟩) n c) := hdep 0 (by decide) 35 rfl
                  have e36 : a.tmps[36]?.getD undef = (.int .i64 (k : Int)) := hdep 1 (by decide) 36 rfl
                  have hin : (k : Int) < (n : Int) := by omega
                  exact plan_do (by rfl) (plan_yield (i := 2) (V := fun _ _ v => v = (.pointer (some ⟨g, off + k * 37, none⟩) : Value)) (.pointer (some ⟨g, off + k * 37, none⟩)) (by go_simp) rfl hK)
                · intro a w' K hs' hdep hfr hK
                  have e37 : a.tmps[37]?.getD undef = (.pointer (some ⟨g, off + k * 37, none⟩)) := hdep 2 (by decide) 37 rfl
                  exact plan_do (by rfl) (plan_yield (i := 3) (V := fun _ _ v => v = (.pointer (some ⟨g, off + k * 37 + 1, none⟩) : Value)) (.pointer (some ⟨g, off + k * 37 + 1, none⟩)) (by go_simp) rfl hK)
                · intro a w' K hs' hdep hfr hK
                  have e38 : a.tmps[38]?.getD undef = (.pointer (some ⟨g, off + k * 37 + 1, none⟩)) := hdep 3 (by decide) 38 rfl
                  have cl := (HUC.out w' hs').2.1
                  exact plan_do (by rfl) (plan_yield (i := 4) (V := fun _ _ v => v = (.int .u64 view : Value)) (.int .u64 view) (by go_simp) rfl hK)
                · intro a w' K hs' hdep hfr hK
                  have f1 := hfr 1 (by decide)
                  exact plan_do (by rfl) (plan_yield (i := 5) (V := fun _ _ v => v = (.int .u64 view : Value)) (.int .u64 view) (by go_simp) rfl hK)
                · intro a w' K hs' hdep hfr hK
                  have e39 : a.tmps[39]?.getD undef = (.int .u64 view) := hdep 4 (by decide) 39 rfl
                  have e40 : a.tmps[40]?.getD undef = (.int .u64 view) := hdep 5 (by decide) 40 rfl
                  exact plan_do (by rfl) (plan_yield (i := 6) (V := fun _ _ v => v = (.bool true : Value)) (.bool true) (by go_simp) rfl hK)
                · intro a w' K hs' hdep hfr hK
                  have e41 : a.tmps[41]?.getD undef = (.bool true) := hdep 6 (by decide) 41 rfl
                  exact plan_do (by rfl) (plan_yield (i := 7) (V := fun _ _ v => v = (.bool true : Value)) (.bool true) (by go_simp) rfl hK)
                · intro a w' K hs' hdep hfr hK
                  have e42 : a.tmps[42]?.getD undef = (.bool true) := hdep 7 (by decide) 42 rfl
                  have f0 := hfr 0 (by decide)
                  exact plan_do (wanted_of 7 42 true rfl rfl e42) (plan_yield (i := 8) (V := fun _ _ v => v = (.slice (some ⟨g, off, none⟩) n c : Value)) (.slice (some ⟨g, off, none⟩) n c) (by go_simp) rfl hK)
                · intro a w' K hs' hdep hfr hK
                  have e42 : a.tmps[42]?.getD undef = (.bool true) := hdep 7 (by decide) 42 rfl
                  have f15 := hfr 15 (by decide)
                  exact plan_do (wanted_of 7 42 true rfl rfl e42) (plan_yield (i := 9) (V := fun _ _ v => v = (.int .i64 (k : Int) : Value)) (.int .i64 (k : Int)) (by go_simp) rfl hK)
                · intro a w' K hs' hdep hfr hK
                  have e43 : a.tmps[43]?.getD undef = (.slice (some ⟨g, off, none⟩) n c) := hdep 8 (by decide) 43 rfl
                  have e44 : a.tmps[44]?.getD undef = (.int .i64 (k : Int)) := hdep 9 (by decide) 44 rfl
                  have e42 : a.tmps[42]?.getD undef = (.bool true) := hdep 7 (by decide) 42 rfl
                  have hin : (k : Int) < (n : Int) := by omega
                  exact plan_do (wanted_of 7 42 true rfl rfl e42) (plan_yield (i := 10) (V := fun _ _ v => v = (.pointer (some ⟨g, off + k * 37, none⟩) : Value)) (.pointer (some ⟨g, off + k * 37, none⟩)) (by go_simp) rfl hK)
                · intro a w' K hs' hdep hfr hK
                  have e45 : a.tmps[45]?.getD undef = (.pointer (some ⟨g, off + k * 37, none⟩)) := hdep 10 (by decide) 45 rfl
                  have e42 : a.tmps[42]?.getD undef = (.bool true) := hdep 7 (by decide) 42 rfl
                  exact plan_do (wanted_of 7 42 true rfl rfl e42) (plan_yield (i := 11) (V := fun _ _ v => v = (.pointer (some ⟨g, off + k * 37, none⟩) : Value)) (.pointer (some ⟨g, off + k * 37, none⟩)) (by go_simp) rfl hK)
                · intro a w' K hs' hdep hfr hK
                  have e46 : a.tmps[46]?.getD undef = (.pointer (some ⟨g, off + k * 37, none⟩)) := hdep 11 (by decide) 46 rfl
                  have e42 : a.tmps[42]?.getD undef = (.bool true) := hdep 7 (by decide) 42 rfl
                  have cl := (HUC.out w' hs').1
                  exact plan_do (wanted_of 7 42 true rfl rfl e42) (plan_yield (i := 12) (V := fun _ _ v => v = (.int .i64 un : Value)) (.int .i64 un) (by go_simp) rfl hK)
                · intro a w' K hs' hdep hfr hK
                  have e42 : a.tmps[42]?.getD undef = (.bool true) := hdep 7 (by decide) 42 rfl
                  have f0 := hfr 0 (by decide)
                  exact plan_do (wanted_of 7 42 true rfl rfl e42) (plan_yield (i := 13) (V := fun _ _ v => v = (.slice (some ⟨g, off, none⟩) n c : Value)) (.slice (some ⟨g, off, none⟩) n c) (by go_simp) rfl hK)
                · intro a w' K hs' hdep hfr hK
                  have e42 : a.tmps[42]?.getD undef = (.bool true) := hdep 7 (by decide) 42 rfl
                  have f13 := hfr 13 (by decide)
                  exact plan_do (wanted_of 7 42 true rfl rfl e42) (plan_yield (i := 14) (V := fun _ _ v => v = (.int .i64 (j : Int) : Value)) (.int .i64 (j : Int)) (by go_simp) rfl hK)
                · intro a w' K hs' hdep hfr hK
                  have e48 : a.tmps[48]?.getD undef = (.slice (some ⟨g, off, none⟩) n c) := hdep 13 (by decide) 48 rfl
                  have e49 : a.tmps[49]?.getD undef = (.int .i64 (j : Int)) := hdep 14 (by decide) 49 rfl
                  have e42 : a.tmps[42]?.getD undef = (.bool true) := hdep 7 (by decide) 42 rfl
                  have hin : (j : Int) < (n : Int) := by omega
                  exact plan_do (wanted_of 7 42 true rfl rfl e42) (plan_yield (i := 15) (V := fun _ _ v => v = (.pointer (some ⟨g, off + j * 37, none⟩) : Value)) (.pointer (some ⟨g, off + j * 37, none⟩)) (by go_simp) rfl hK)
                · intro a w' K hs' hdep hfr hK
                  have e50 : a.tmps[50]?.getD undef = (.pointer (some ⟨g, off + j * 37, none⟩)) := hdep 15 (by decide) 50 rfl
                  have e42 : a.tmps[42]?.getD undef = (.bool true) := hdep 7 (by decide) 42 rfl
                  exact plan_do (wanted_of 7 42 true rfl rfl e42) (plan_yield (i := 16) (V := fun _ _ v => v = (.pointer (some ⟨g, off + j * 37, none⟩) : Value)) (.pointer (some ⟨g, off + j * 37, none⟩)) (by go_simp) rfl hK)
                · intro a w' K hs' hdep hfr hK
                  have e51 : a.tmps[51]?.getD undef = (.pointer (some ⟨g, off + j * 37, none⟩)) := hdep 16 (by decide) 51 rfl
                  have e42 : a.tmps[42]?.getD undef = (.bool true) := hdep 7 (by decide) 42 rfl
                  have cl := (HVC.out w' hs').1
                  exact plan_do (wanted_of 7 42 true rfl rfl e42) (plan_yield (i := 17) (V := fun _ _ v => v = (.int .i64 vn : Value)) (.int .i64 vn) (by go_simp) rfl hK)
                · intro a w' K hs' hdep hfr hK
                  have e47 : a.tmps[47]?.getD undef = (.int .i64 un) := hdep 12 (by decide) 47 rfl
                  have e52 : a.tmps[52]?.getD undef = (.int .i64 vn) := hdep 17 (by decide) 52 rfl
                  have e42 : a.tmps[42]?.getD undef = (.bool true) := hdep 7 (by decide) 42 rfl
                  have z1 := HNN.out
                  have z2 : (un == vn) = false := by simpa using z1
                  exact plan_do (wanted_of 7 42 true rfl rfl e42) (plan_yield (i := 18) (V := fun _ _ v => v = (.bool false : Value)) (.bool false) (by go_simp) rfl hK)
                · intro a w' K hs' hdep hfr hK
                  have e42 : a.tmps[42]?.getD undef = (.bool true) := hdep 7 (by decide) 42 rfl
                  have e53 : a.tmps[53]?.getD undef = (.bool false) := hdep 18 (by decide) 53 rfl
                  exact plan_do (by rfl) (plan_yield (i := 19) (V := fun _ _ v => v = (.bool false : Value)) (.bool false) (by go_simp) rfl hK)
              intro a wz hkz hdef hsz hv hfr
              have e54 : a.tmps[54]?.getD undef = (.bool false) := hv 19 54 rfl
              have he := act_eq a _ [some 35, some 36, some 37, some 38, some 39, some 40, some 41, some 42, some 43, some 44, some 45, some 46, some 47, some 48, some 49, some 50, some 51, some 52, some 53, some 54] 91 rfl hsz hdef hfr (fun d => a.tmps[d]?.getD undef) (fun _ _ => rfl)
              obtain ⟨v35, h35⟩ : ∃ v, a.tmps[35]?.getD undef = v := ⟨_, rfl⟩
              obtain ⟨v36, h36⟩ : ∃ v, a.tmps[36]?.getD undef = v := ⟨_, rfl⟩
              obtain ⟨v37, h37⟩ : ∃ v, a.tmps[37]?.getD undef = v := ⟨_, rfl⟩
              obtain ⟨v38, h38⟩ : ∃ v, a.tmps[38]?.getD undef = v := ⟨_, rfl⟩
              obtain ⟨v39, h39⟩ : ∃ v, a.tmps[39]?.getD undef = v := ⟨_, rfl⟩
              obtain ⟨v40, h40⟩ : ∃ v, a.tmps[40]?.getD undef = v := ⟨_, rfl⟩
              obtain ⟨v41, h41⟩ : ∃ v, a.tmps[41]?.getD undef = v := ⟨_, rfl⟩
              obtain ⟨v42, h42⟩ : ∃ v, a.tmps[42]?.getD undef = v := ⟨_, rfl⟩
              obtain ⟨v43, h43⟩ : ∃ v, a.tmps[43]?.getD undef = v := ⟨_, rfl⟩
              obtain ⟨v44, h44⟩ : ∃ v, a.tmps[44]?.getD undef = v := ⟨_, rfl⟩
              obtain ⟨v45, h45⟩ : ∃ v, a.tmps[45]?.getD undef = v := ⟨_, rfl⟩
              obtain ⟨v46, h46⟩ : ∃ v, a.tmps[46]?.getD undef = v := ⟨_, rfl⟩
              obtain ⟨v47, h47⟩ : ∃ v, a.tmps[47]?.getD undef = v := ⟨_, rfl⟩
              obtain ⟨v48, h48⟩ : ∃ v, a.tmps[48]?.getD undef = v := ⟨_, rfl⟩
              obtain ⟨v49, h49⟩ : ∃ v, a.tmps[49]?.getD undef = v := ⟨_, rfl⟩
              obtain ⟨v50, h50⟩ : ∃ v, a.tmps[50]?.getD undef = v := ⟨_, rfl⟩
              obtain ⟨v51, h51⟩ : ∃ v, a.tmps[51]?.getD undef = v := ⟨_, rfl⟩
              obtain ⟨v52, h52⟩ : ∃ v, a.tmps[52]?.getD undef = v := ⟨_, rfl⟩
              obtain ⟨v53, h53⟩ : ∃ v, a.tmps[53]?.getD undef = v := ⟨_, rfl⟩
              simp only [putAll, e54, h35, h36, h37, h38, h39, h40, h41, h42, h43, h44, h45, h46, h47, h48, h49, h50, h51, h52, h53, List.setIfInBounds_toArray, List.set_cons_zero, List.set_cons_succ] at he
              clear e54 h35 h36 h37 h38 h39 h40 h41 h42 h43 h44 h45 h46 h47 h48 h49 h50 h51 h52 h53 hdef hsz hv hfr
              subst he
              have HKZ := Lib.hid hkz
              clear hkz
              go_wp2
              go_roundw
              case rel => exact ⟨k + 1, by omega, by go_num, by rw [HFN.out], HS2.out.trans HKZ.out (fun _ _ e => e)⟩
              case measure => simp [intOf]; omega
          · have HNV := Lib.hid hA
            have HFN : Hid ((!decide (vn ∈ (csOf view (vs.take (k + 1))).nodes)) = fq) := Lib.hid (by
              rw [← HFQ.out]
              congr 1
              exact decide_eq_decide.2 ((HMS.out vn).trans ⟨fun e => e.elim id (fun e => absurd e.1 HNV.out), .inl⟩))
            clear hA
            go_wp2
            refine wp_region_do [[], [], [0, 1], [2], [3], [], [4, 5], [6], [7], [7], [8, 9, 7], [10, 7], [11, 7], [7], [7], [13, 14, 7], [15, 7], [16, 7], [12, 17, 7], [7, 18]]
              [some 35, some 36, some 37, some 38, some 39, some 40, some 41, some 42, some 43, some 44, some 45, some 46, some 47, some 48, some 49, some 50, some 51, some 52, some 53, some 54]
              [.is (.slice (some ⟨g, off, none⟩) n c), .is (.int .i64 (k : Int)), .is (.pointer (some ⟨g, off + k * 37, none⟩)), .is (.pointer (some ⟨g, off + k * 37 + 1, none⟩)), .is (.int .u64 uv), .is (.int .u64 view), .is (.bool false), .is (.bool false), .any, .any, .any, .any, .any, .any, .any, .any, .any, .any, .any, .is (.bool false)]
              10 _ _ 91 20 (by kernel_rfl) (by rfl) (by rfl) (by kernel_rfl) (by kernel_rfl) (by decide) ?_ ?_
            · refine ⟨?_, ?_, ?_, ?_, ?_, ?_, ?_, ?_, ?_, ?_, ?_, ?_, ?_, ?_, ?_, ?_, ?_, ?_, ?_, ?_, trivial⟩
              · intro a w' K hs' hdep hfr hK
                have f0 := hfr 0 (by decide)
                exact plan_do (by rfl) (plan_yield (i := 0) (V := fun _ _ v => v = (.slice (some ⟨g, off, none⟩) n c : Value)) (.slice (some ⟨g, off, none⟩) n c) (by go_simp) rfl hK)
              · intro a w' K hs' hdep hfr hK
                have f15 := hfr 15 (by decide)
                exact plan_do (by rfl) (plan_yield (i := 1) (V := fun _ _ v => v = (.int .i64 (k : Int) : Value)) (.int .i64 (k : Int)) (by go_simp) rfl hK)
              · intro a w' K hs' hdep hfr hK
                have e35 : a.tmps[35]?.getD undef = (.slice (some ⟨g, off, none⟩) n c) := hdep 0 (by decide) 35 rfl
                have e36 : a.tmps[36]?.getD undef = (.int .i64 (k : Int)) := hdep 1 (by decide) 36 rfl
                have hin : (k : Int) < (n : Int) := by omega
                exact plan_do (by rfl) (plan_yield (i := 2) (V := fun _ _ v => v = (.pointer (some ⟨g, off + k * 37, none⟩) : Value)) (.pointer (some ⟨g, off + k * 37, none⟩)) (by go_simp) rfl hK)
              · intro a w' K hs' hdep hfr hK
                have e37 : a.tmps[37]?.getD undef = (.pointer (some ⟨g, off + k * 37, none⟩)) := hdep 2 (by decide) 37 rfl
                exact plan_do (by rfl) (plan_yield (i := 3) (V := fun _ _ v => v = (.pointer (some ⟨g, off + k * 37 + 1, none⟩) : Value)) (.pointer (some ⟨g, off + k * 37 + 1, none⟩)) (by go_simp) rfl hK)
              · intro a w' K hs' hdep hfr hK
                have e38 : a.tmps[38]?.getD undef = (.pointer (some ⟨g, off + k * 37 + 1, none⟩)) := hdep 3 (by decide) 38 rfl
                have cl := (HUC.out w' hs').2.1
                exact plan_do (by rfl) (plan_yield (i := 4) (V := fun _ _ v => v = (.int .u64 uv : Value)) (.int .u64 uv) (by go_simp) rfl hK)
              · intro a w' K hs' hdep hfr hK
                have f1 := hfr 1 (by decide)
                exact plan_do (by rfl) (plan_yield (i := 5) (V := fun _ _ v => v = (.int .u64 view : Value)) (.int .u64 view) (by go_simp) rfl hK)
              · intro a w' K hs' hdep hfr hK
                have e39 : a.tmps[39]?.getD undef = (.int .u64 uv) := hdep 4 (by decide) 39 rfl
                have e40 : a.tmps[40]?.getD undef = (.int .u64 view) := hdep 5 (by decide) 40 rfl
                have z1 := HNV.out
                have z2 : (uv == view) = false := by simpa using z1
                exact plan_do (by rfl) (plan_yield (i := 6) (V := fun _ _ v => v = (.bool false : Value)) (.bool false) (by go_simp) rfl hK)
              · intro a w' K hs' hdep hfr hK
                have e41 : a.tmps[41]?.getD undef = (.bool false) := hdep 6 (by decide) 41 rfl
                exact plan_do (by rfl) (plan_yield (i := 7) (V := fun _ _ v => v = (.bool false : Value)) (.bool false) (by go_simp) rfl hK)
              · intro a w' K hs' hdep hfr hK
                have e42 : a.tmps[42]?.getD undef = (.bool false) := hdep 7 (by decide) 42 rfl
                have f0 := hfr 0 (by decide)
                exact plan_skip (unwanted_by 7 42 true rfl rfl e42) (hK _ _ (Keeps.refl _ _) trivial)
              · intro a w' K hs' hdep hfr hK
                have e42 : a.tmps[42]?.getD undef = (.bool false) := hdep 7 (by decide) 42 rfl
                have f15 := hfr 15 (by decide)
                exact plan_skip (unwanted_by 7 42 true rfl rfl e42) (hK _ _ (Keeps.refl _ _) trivial)
              · intro a w' K hs' hdep hfr hK
                have e42 : a.tmps[42]?.getD undef = (.bool false) := hdep 7 (by decide) 42 rfl
                have hin : (k : Int) < (n : Int) := by omega
                exact plan_skip (unwanted_by 7 42 true rfl rfl e42) (hK _ _ (Keeps.refl _ _) trivial)
              · intro a w' K hs' hdep hfr hK
                have e42 : a.tmps[42]?.getD undef = (.bool false) := hdep 7 (by decide) 42 rfl
                exact plan_skip (unwanted_by 7 42 true rfl rfl e42) (hK _ _ (Keeps.refl _ _) trivial)
              · intro a w' K hs' hdep hfr hK
                have e42 : a.tmps[42]?.getD undef = (.bool false) := hdep 7 (by decide) 42 rfl
                have cl := (HUC.out w' hs').1
                exact plan_skip (unwanted_by 7 42 true rfl rfl e42) (hK _ _ (Keeps.refl _ _) trivial)
              · intro a w' K hs' hdep hfr hK
                have e42 : a.tmps[42]?.getD undef = (.bool false) := hdep 7 (by decide) 42 rfl
                have f0 := hfr 0 (by decide)
                exact plan_skip (unwanted_by 7 42 true rfl rfl e42) (hK _ _ (Keeps.refl _ _) trivial)
              · intro a w' K hs' hdep hfr hK
                have e42 : a.tmps[42]?.getD undef = (.bool false) := hdep 7 (by decide) 42 rfl
                have f13 := hfr 13 (by decide)
                exact plan_skip (unwanted_by 7 42 true rfl rfl e42) (hK _ _ (Keeps.refl _ _) trivial)
              · intro a w' K hs' hdep hfr hK
                have e42 : a.tmps[42]?.getD undef = (.bool false) := hdep 7 (by decide) 42 rfl
                have hin : (j : Int) < (n : Int) := by omega
                exact plan_skip (unwanted_by 7 42 true rfl rfl e42) (hK _ _ (Keeps.refl _ _) trivial)
              · intro a w' K hs' hdep hfr hK
                have e42 : a.tmps[42]?.getD undef = (.bool false) := hdep 7 (by decide) 42 rfl
                exact plan_skip (unwanted_by 7 42 true rfl rfl e42) (hK _ _ (Keeps.refl _ _) trivial)
              · intro a w' K hs' hdep hfr hK
                have e42 : a.tmps[42]?.getD undef = (.bool false) := hdep 7 (by decide) 42 rfl
                have cl := (HVC.out w' hs').1
                exact plan_skip (unwanted_by 7 42 true rfl rfl e42) (hK _ _ (Keeps.refl _ _) trivial)
              · intro a w' K hs' hdep hfr hK
                have e42 : a.tmps[42]?.getD undef = (.bool false) := hdep 7 (by decide) 42 rfl
                exact plan_skip (unwanted_by 7 42 true rfl rfl e42) (hK _ _ (Keeps.refl _ _) trivial)
              · intro a w' K hs' hdep hfr hK
                have e42 : a.tmps[42]?.getD undef = (.bool false) := hdep 7 (by decide) 42 rfl
                exact plan_do (by rfl) (plan_yield (i := 19) (V := fun _ _ v => v = (.bool false : Value)) (.bool false) (by go_simp) rfl hK)
            intro a wz hkz hdef hsz hv hfr
            have e54 : a.tmps[54]?.getD undef = (.bool false) := hv 19 54 rfl
            have he := act_eq a _ [some 35, some 36, some 37, some 38, some 39, some 40, some 41, some 42, some 43, some 44, some 45, some 46, some 47, some 48, some 49, some 50, some 51, some 52, some 53, some 54] 91 rfl hsz hdef hfr (fun d => a.tmps[d]?.getD undef) (fun _ _ => rfl)
            obtain ⟨v35, h35⟩ : ∃ v, a.tmps[35]?.getD undef = v := ⟨_, rfl⟩
            obtain ⟨v36, h36⟩ : ∃ v, a.tmps[36]?.getD undef = v := ⟨_, rfl⟩
            obtain ⟨v37, h37⟩ : ∃ v, a.tmps[37]?.getD undef = v := ⟨_, rfl⟩
            obtain ⟨v38, h38⟩ : ∃ v, a.tmps[38]?.getD undef = v := ⟨_, rfl⟩
            obtain ⟨v39, h39⟩ : ∃ v, a.tmps[39]?.getD undef = v := ⟨_, rfl⟩
            obtain ⟨v40, h40⟩ : ∃ v, a.tmps[40]?.getD undef = v := ⟨_, rfl⟩
            obtain ⟨v41, h41⟩ : ∃ v, a.tmps[41]?.getD undef = v := ⟨_, rfl⟩
            obtain ⟨v42, h42⟩ : ∃ v, a.tmps[42]?.getD undef = v := ⟨_, rfl⟩
            obtain ⟨v43, h43⟩ : ∃ v, a.tmps[43]?.getD undef = v := ⟨_, rfl⟩
            obtain ⟨v44, h44⟩ : ∃ v, a.tmps[44]?.getD undef = v := ⟨_, rfl⟩
            obtain ⟨v45, h45⟩ : ∃ v, a.tmps[45]?.getD undef = v := ⟨_, rfl⟩
            obtain ⟨v46, h46⟩ : ∃ v, a.tmps[46]?.getD undef = v := ⟨_, rfl⟩
            obtain ⟨v47, h47⟩ : ∃ v, a.tmps[47]?.getD undef = v := ⟨_, rfl⟩
            obtain ⟨v48, h48⟩ : ∃ v, a.tmps[48]?.getD undef = v := ⟨_, rfl⟩
            obtain ⟨v49, h49⟩ : ∃ v, a.tmps[49]?.getD undef = v := ⟨_, rfl⟩
            obtain ⟨v50, h50⟩ : ∃ v, a.tmps[50]?.getD undef = v := ⟨_, rfl⟩
            obtain ⟨v51, h51⟩ : ∃ v, a.tmps[51]?.getD undef = v := ⟨_, rfl⟩
            obtain ⟨v52, h52⟩ : ∃ v, a.tmps[52]?.getD undef = v := ⟨_, rfl⟩
            obtain ⟨v53, h53⟩ : ∃ v, a.tmps[53]?.getD undef = v := ⟨_, rfl⟩
            simp only [putAll, e54, h35, h36, h37, h38, h39, h40, h41, h42, h43, h44, h45, h46, h47, h48, h49, h50, h51, h52, h53, List.setIfInBounds_toArray, List.set_cons_zero, List.set_cons_succ] at he
            clear e54 h35 h36 h37 h38 h39 h40 h41 h42 h43 h44 h45 h46 h47 h48 h49 h50 h51 h52 h53 hdef hsz hv hfr
            subst he
            have HKZ := Lib.hid hkz
            clear hkz
            go_wp2
            go_roundw
            case rel => exact ⟨k + 1, by omega, by go_num, by rw [HFN.out], HS2.out.trans HKZ.out (fun _ _ e => e)⟩
            case measure => simp [intOf]; omega
        · obtain rfl : j = k := by omega
          have hkk : ¬ (j : Int) < (j : Int) := by omega
          have HK2 : Hid (Keeps (fun q => q = B) w0 wr) := Lib.hid (HK1.out.trans HS2.out (fun _ _ e => e.elim))
          have HB2 : Hid (Whole wr B 31 rw0.cells) := Lib.hid (HB1.out.keep HS2.out (fun e => e))
          have HRA2 := Lib.hid (range_sameV HRA.out HS2.out)
          have hcom := (range_cells HRA2.out).2.2
          rw [HSJ.out, HLN.out]
          by_cases hmem : v.node ∈ l
          · have HMEM := Lib.hid hmem
            have hfr : (!decide (v.node ∈ l)) = false := by simp [hmem]
            rw [hfr]
            clear hfr hmem
            by_cases hcq : cm < v.commit
            · have HCQ := Lib.hid hcq
              cases hbest : s.best with
              | none =>
                rw [hbest] at HSTP
                have HSTEP := Lib.hid (HSTP.out v rfl)
                have hsom : (Option.isSome (none : Option VoteX)) = false := rfl
                rw [hsom]
                clear hbest hsom
                have HCT : Hid (((csOf view (vs.take (j + 1))).nodes.length : Int) = (l.length : Int)) := Lib.hid (by rw [HTK.out, HSTEP.out]; simp only [if_pos HMEM.out])
                have HCMT : Hid ((csOf view (vs.take (j + 1))).commit = v.commit) := Lib.hid (by rw [HTK.out, HSTEP.out]; simp only [if_pos HCQ.out])
                have HAN : Hid ((csOf view (vs.take (j + 1))).best.isSome = true ∧ (csOf view (vs.take (j + 1))).row = v) := Lib.hid (by rw [HTK.out, HSTEP.out]; exact ⟨rfl, rfl⟩)
                go_wp2
                refine wp_region_do [[], [0], [1], [2], [2], [3, 4, 2], [5, 2], [2], [6, 7, 2, 2], [2, 8]]
                  [some 70, some 71, some 72, some 73, some 74, some 75, some 76, some 77, some 78, some 79]
                  [.is (.bool false), .is (.bool true), .is (.bool true), .any, .any, .any, .any, .any, .any, .is (.bool true)]
                  16 _ _ 91 10 (by kernel_rfl) (by rfl) (by rfl) (by kernel_rfl) (by kernel_rfl) (by decide) ?_ ?_
                · refine ⟨?_, ?_, ?_, ?_, ?_, ?_, ?_, ?_, ?_, ?_, trivial⟩
                  · intro a w' K hs' hdep hfr hK
                    have f12 := hfr 12 (by decide)
                    exact plan_do (by rfl) (plan_yield (i := 0) (V := fun _ _ v => v = (.bool false : Value)) (.bool false) (by go_simp) rfl hK)
                  · intro a w' K hs' hdep hfr hK
                    have e70 : a.tmps[70]?.getD undef = (.bool false) := hdep 0 (by decide) 70 rfl
                    exact plan_do (by rfl) (plan_yield (i := 1) (V := fun _ _ v => v = (.bool true : Value)) (.bool true) (by go_simp) rfl hK)
                  · intro a w' K hs' hdep hfr hK
                    have e71 : a.tmps[71]?.getD undef = (.bool true) := hdep 1 (by decide) 71 rfl
                    exact plan_do (by rfl) (plan_yield (i := 2) (V := fun _ _ v => v = (.bool true : Value)) (.bool true) (by go_simp) rfl hK)
                  · intro a w' K hs' hdep hfr hK
                    have e72 : a.tmps[72]?.getD undef = (.bool true) := hdep 2 (by decide) 72 rfl
                    have f0 := hfr 0 (by decide)
                    exact plan_skip (unwanted_by 2 72 false rfl rfl e72) (hK _ _ (Keeps.refl _ _) trivial)
                  · intro a w' K hs' hdep hfr hK
                    have e72 : a.tmps[72]?.getD undef = (.bool true) := hdep 2 (by decide) 72 rfl
                    have f13 := hfr 13 (by decide)
                    exact plan_skip (unwanted_by 2 72 false rfl rfl e72) (hK _ _ (Keeps.refl _ _) trivial)
                  · intro a w' K hs' hdep hfr hK
                    have e72 : a.tmps[72]?.getD undef = (.bool true) := hdep 2 (by decide) 72 rfl
                    exact plan_skip (unwanted_by 2 72 false rfl rfl e72) (hK _ _ (Keeps.refl _ _) trivial)
                  · intro a w' K hs' hdep hfr hK
                    have e72 : a.tmps[72]?.getD undef = (.bool true) := hdep 2 (by decide) 72 rfl
                    exact plan_skip (unwanted_by 2 72 false rfl rfl e72) (hK _ _ (Keeps.refl _ _) trivial)
                  · intro a w' K hs' hdep hfr hK
                    have e72 : a.tmps[72]?.getD undef = (.bool true) := hdep 2 (by decide) 72 rfl
                    have f11 := hfr 11 (by decide)
                    exact plan_skip (unwanted_by 2 72 false rfl rfl e72) (hK _ _ (Keeps.refl _ _) trivial)
                  · intro a w' K hs' hdep hfr hK
                    have e72 : a.tmps[72]?.getD undef = (.bool true) := hdep 2 (by decide) 72 rfl
                    exact plan_skip (unwanted_by 2 72 false rfl rfl e72) (hK _ _ (Keeps.refl _ _) trivial)
                  · intro a w' K hs' hdep hfr hK
                    have e72 : a.tmps[72]?.getD undef = (.bool true) := hdep 2 (by decide) 72 rfl
                    exact plan_do (by rfl) (plan_yield (i := 9) (V := fun _ _ v => v = (.bool true : Value)) (.bool true) (by go_simp) rfl hK)
                intro a wz hkz hdef hsz hv hfr
                have e79 : a.tmps[79]?.getD undef = (.bool true) := hv 9 79 rfl
                have he := act_eq a _ [some 70, some 71, some 72, some 73, some 74, some 75, some 76, some 77, some 78, some 79] 91 rfl hsz hdef hfr (fun d => a.tmps[d]?.getD undef) (fun _ _ => rfl)
                obtain ⟨v70, h70⟩ : ∃ v, a.tmps[70]?.getD undef = v := ⟨_, rfl⟩
                obtain ⟨v71, h71⟩ : ∃ v, a.tmps[71]?.getD undef = v := ⟨_, rfl⟩
                obtain ⟨v72, h72⟩ : ∃ v, a.tmps[72]?.getD undef = v := ⟨_, rfl⟩
                obtain ⟨v73, h73⟩ : ∃ v, a.tmps[73]?.getD undef = v := ⟨_, rfl⟩
                obtain ⟨v74, h74⟩ : ∃ v, a.tmps[74]?.getD undef = v := ⟨_, rfl⟩
                obtain ⟨v75, h75⟩ : ∃ v, a.tmps[75]?.getD undef = v := ⟨_, rfl⟩
                obtain ⟨v76, h76⟩ : ∃ v, a.tmps[76]?.getD undef = v := ⟨_, rfl⟩
                obtain ⟨v77, h77⟩ : ∃ v, a.tmps[77]?.getD undef = v := ⟨_, rfl⟩
                obtain ⟨v78, h78⟩ : ∃ v, a.tmps[78]?.getD undef = v := ⟨_, rfl⟩
                simp only [putAll, e79, h70, h71, h72, h73, h74, h75, h76, h77, h78, List.setIfInBounds_toArray, List.set_cons_zero, List.set_cons_succ] at he
                clear e79 h70 h71 h72 h73 h74 h75 h76 h77 h78 hdef hsz hv hfr
                subst he
                have HKZ := Lib.hid hkz
                clear hkz
                obtain ⟨w9, hw9⟩ : ∃ w9, wz.setRow B v.cells.toArray = w9 := ⟨_, rfl⟩
                have HBZ := Lib.hid (HB2.out.keep HKZ.out (fun e => e))
                have HRZ := Lib.hid (range_sameV HRA2.out HKZ.out)
                have HQ9 : Hid (Whole w9 B 31 v.cells) := Lib.hid (by rw [← hw9]; exact HBZ.out.row)
                have HK9 : Hid (Keeps (fun q => q = B) w0 w9) := Lib.hid (by rw [← hw9]; exact (HK2.out.trans HKZ.out (fun _ _ e => e.elim)).setRow _ _ (.inr rfl))
                have HW9 := Lib.hid hw9
                clear hw9
                go_wp2_with (first
                  | (refine wpList_load_mid (by rfl) 31 _ (by rfl) g (off + j * 37) (by rfl) v.cells _ HRZ.out Try.underlying31 rfl HSL.out ?_)
                  | (refine wpList_store_row (by rfl) 31 _ _ (by rfl) B v.cells.toArray (by rfl) (by rfl) 31 rw0.cells.toArray HBZ.out HSV.out HSR.out HAL.out ?_; rw [HW9.out]))
                go_roundw
                case rel => exact ⟨j + 1, by omega, by go_num, by rw [HCT.out], by rw [HCMT.out], by rw [HAN.out.1], by rw [HAN.out.2]; exact HQ9.out, HK9.out⟩
                case measure => simp [intOf]; omega
              | some b =>
                obtain rfl := HROW.out b hbest
                rw [hbest] at HSTP
                obtain ⟨rw0, hrw0⟩ : ∃ r, b = r := ⟨_, rfl⟩
                have hsom : (Option.isSome (some b)) = true := rfl
                rw [hsom]
                rw [hrw0] at HSTP HB2 HRH HSR
                clear hbest hsom hrw0
                by_cases hab : above v rw0 = true
                · have HSTEP := Lib.hid (HSTP.out v (by rw [CS.up, if_pos hab]))
                  have HAB := Lib.hid hab
                  clear hab
                  have HCT : Hid (((csOf view (vs.take (j + 1))).nodes.length : Int) = (l.length : Int)) := Lib.hid (by rw [HTK.out, HSTEP.out]; simp only [if_pos HMEM.out])
                  have HCMT : Hid ((csOf view (vs.take (j + 1))).commit = v.commit) := Lib.hid (by rw [HTK.out, HSTEP.out]; simp only [if_pos HCQ.out])
                  have HAN : Hid ((csOf view (vs.take (j + 1))).best.isSome = true ∧ (csOf view (vs.take (j + 1))).row = v) := Lib.hid (by rw [HTK.out, HSTEP.out]; exact ⟨rfl, rfl⟩)
                  go_wp2
                  refine wp_region_do [[], [0], [1], [2], [2], [3, 4, 2], [5, 2], [2], [6, 7, 2, 2], [2, 8]]
                    [some 70, some 71, some 72, some 73, some 74, some 75, some 76, some 77, some 78, some 79]
                    [.is (.bool true), .is (.bool false), .is (.bool false), .is (.slice (some ⟨g, off, none⟩) n c), .is (.int .i64 (j : Int)), .is (.pointer (some ⟨g, off + j * 37, none⟩)), .is (.agg v.cells.toArray), .is (.agg rw0.cells.toArray), .is (.bool true), .is (.bool true)]
                    16 _ _ 91 10 (by kernel_rfl) (by rfl) (by rfl) (by kernel_rfl) (by kernel_rfl) (by decide) ?_ ?_
                  · refine ⟨?_, ?_, ?_, ?_, ?_, ?_, ?_, ?_, ?_, ?_, trivial⟩
                    · intro a w' K hs' hdep hfr hK
                      have f12 := hfr 12 (by decide)
                      exact plan_do (by rfl) (plan_yield (i := 0) (V := fun _ _ v => v = (.bool true : Value)) (.bool true) (by go_simp) rfl hK)
                    · intro a w' K hs' hdep hfr hK
                      have e70 : a.tmps[70]?.getD undef = (.bool true) := hdep 0 (by decide) 70 rfl
                      exact plan_do (by rfl) (plan_yield (i := 1) (V := fun _ _ v => v = (.bool false : Value)) (.bool false) (by go_simp) rfl hK)
                    · intro a w' K hs' hdep hfr hK
                      have e71 : a.tmps[71]?.getD undef = (.bool false) := hdep 1 (by decide) 71 rfl
                      exact plan_do (by rfl) (plan_yield (i := 2) (V := fun _ _ v => v = (.bool false : Value)) (.bool false) (by go_simp) rfl hK)
                    · intro a w' K hs' hdep hfr hK
                      have e72 : a.tmps[72]?.getD undef = (.bool false) := hdep 2 (by decide) 72 rfl
                      have f0 := hfr 0 (by decide)
                      exact plan_do (wanted_of 2 72 false rfl rfl e72) (plan_yield (i := 3) (V := fun _ _ v => v = (.slice (some ⟨g, off, none⟩) n c : Value)) (.slice (some ⟨g, off, none⟩) n c) (by go_simp) rfl hK)
                    · intro a w' K hs' hdep hfr hK
                      have e72 : a.tmps[72]?.getD undef = (.bool false) := hdep 2 (by decide) 72 rfl
                      have f13 := hfr 13 (by decide)
                      exact plan_do (wanted_of 2 72 false rfl rfl e72) (plan_yield (i := 4) (V := fun _ _ v => v = (.int .i64 (j : Int) : Value)) (.int .i64 (j : Int)) (by go_simp) rfl hK)
                    · intro a w' K hs' hdep hfr hK
                      have e73 : a.tmps[73]?.getD undef = (.slice (some ⟨g, off, none⟩) n c) := hdep 3 (by decide) 73 rfl
                      have e74 : a.tmps[74]?.getD undef = (.int .i64 (j : Int)) := hdep 4 (by decide) 74 rfl
                      have e72 : a.tmps[72]?.getD undef = (.bool false) := hdep 2 (by decide) 72 rfl
                      have hin : (j : Int) < (n : Int) := by omega
                      exact plan_do (wanted_of 2 72 false rfl rfl e72) (plan_yield (i := 5) (V := fun _ _ v => v = (.pointer (some ⟨g, off + j * 37, none⟩) : Value)) (.pointer (some ⟨g, off + j * 37, none⟩)) (by go_simp) rfl hK)
                    · intro a w' K hs' hdep hfr hK
                      have e75 : a.tmps[75]?.getD undef = (.pointer (some ⟨g, off + j * 37, none⟩)) := hdep 5 (by decide) 75 rfl
                      have e72 : a.tmps[72]?.getD undef = (.bool false) := hdep 2 (by decide) 72 rfl
                      exact plan_do (wanted_of 2 72 false rfl rfl e72) (wp_load_mid (P := Try.prog) 31 (.tmp 75) rfl g (off + j * 37) ((eval_tmp _ _).trans e75) v.cells _ (range_sameV HRA2.out hs') Try.underlying31 rfl HSL.out (hK _ _ (Keeps.refl _ _) rfl))
                    · intro a w' K hs' hdep hfr hK
                      have e72 : a.tmps[72]?.getD undef = (.bool false) := hdep 2 (by decide) 72 rfl
                      have f11 := hfr 11 (by decide)
                      exact plan_do (wanted_of 2 72 false rfl rfl e72) (wp_load_row (P := Try.prog) 31 (.tmp 11) rfl B ((eval_tmp _ _).trans f11) 31 rw0.cells.toArray (0, 0) _ (HB2.out.keep hs' (fun e => e)) Try.underlying31 rfl (size_vote _ HRH.out) (hK _ _ (Keeps.refl _ _) rfl))
                    · intro a w' K hs' hdep hfr hK
                      have e76 : a.tmps[76]?.getD undef = (.agg v.cells.toArray) := hdep 6 (by decide) 76 rfl
                      have e77 : a.tmps[77]?.getD undef = (.agg rw0.cells.toArray) := hdep 7 (by decide) 77 rfl
                      have e72 : a.tmps[72]?.getD undef = (.bool false) := hdep 2 (by decide) 72 rfl
                      refine plan_do (wanted_of 2 72 false rfl rfl e72) (plan_call 23 #[.agg v.cells.toArray, .agg rw0.cells.toArray] (by go_simp) ?_)
                      exact (above_any v rw0 w' HVO.out.head HRH.out).mono fun e w'' ⟨he, hk⟩ => ⟨_, by rw [HAB.out] at he; exact he, hK _ _ hk rfl⟩
                    · intro a w' K hs' hdep hfr hK
                      have e72 : a.tmps[72]?.getD undef = (.bool false) := hdep 2 (by decide) 72 rfl
                      have e78 : a.tmps[78]?.getD undef = (.bool true) := hdep 8 (by decide) 78 rfl
                      exact plan_do (by rfl) (plan_yield (i := 9) (V := fun _ _ v => v = (.bool true : Value)) (.bool true) (by go_simp) rfl hK)
                  intro a wz hkz hdef hsz hv hfr
                  have e79 : a.tmps[79]?.getD undef = (.bool true) := hv 9 79 rfl
                  have he := act_eq a _ [some 70, some 71, some 72, some 73, some 74, some 75, some 76, some 77, some 78, some 79] 91 rfl hsz hdef hfr (fun d => a.tmps[d]?.getD undef) (fun _ _ => rfl)
                  obtain ⟨v70, h70⟩ : ∃ v, a.tmps[70]?.getD undef = v := ⟨_, rfl⟩
                  obtain ⟨v71, h71⟩ : ∃ v, a.tmps[71]?.getD undef = v := ⟨_, rfl⟩
                  obtain ⟨v72, h72⟩ : ∃ v, a.tmps[72]?.getD undef = v := ⟨_, rfl⟩
                  obtain ⟨v73, h73⟩ : ∃ v, a.tmps[73]?.getD undef = v := ⟨_, rfl⟩
                  obtain ⟨v74, h74⟩ : ∃ v, a.tmps[74]?.getD undef = v := ⟨_, rfl⟩
                  obtain ⟨v75, h75⟩ : ∃ v, a.tmps[75]?.getD undef = v := ⟨_, rfl⟩
                  obtain ⟨v76, h76⟩ : ∃ v, a.tmps[76]?.getD undef = v := ⟨_, rfl⟩
                  obtain ⟨v77, h77⟩ : ∃ v, a.tmps[77]?.getD undef = v := ⟨_, rfl⟩
                  obtain ⟨v78, h78⟩ : ∃ v, a.tmps[78]?.getD undef = v := ⟨_, rfl⟩
                  simp only [putAll, e79, h70, h71, h72, h73, h74, h75, h76, h77, h78, List.setIfInBounds_toArray, List.set_cons_zero, List.set_cons_succ] at he
                  clear e79 h70 h71 h72 h73 h74 h75 h76 h77 h78 hdef hsz hv hfr
                  subst he
                  have HKZ := Lib.hid hkz
                  clear hkz
                  obtain ⟨w9, hw9⟩ : ∃ w9, wz.setRow B v.cells.toArray = w9 := ⟨_, rfl⟩
                  have HBZ := Lib.hid (HB2.out.keep HKZ.out (fun e => e))
                  have HRZ := Lib.hid (range_sameV HRA2.out HKZ.out)
                  have HQ9 : Hid (Whole w9 B 31 v.cells) := Lib.hid (by rw [← hw9]; exact HBZ.out.row)
                  have HK9 : Hid (Keeps (fun q => q = B) w0 w9) := Lib.hid (by rw [← hw9]; exact (HK2.out.trans HKZ.out (fun _ _ e => e.elim)).setRow _ _ (.inr rfl))
                  have HW9 := Lib.hid hw9
                  clear hw9
                  go_wp2_with (first
                    | (refine wpList_load_mid (by rfl) 31 _ (by rfl) g (off + j * 37) (by rfl) v.cells _ HRZ.out Try.underlying31 rfl HSL.out ?_)
                    | (refine wpList_store_row (by rfl) 31 _ _ (by rfl) B v.cells.toArray (by rfl) (by rfl) 31 rw0.cells.toArray HBZ.out HSV.out HSR.out HAL.out ?_; rw [HW9.out]))
                  go_roundw
                  case rel => exact ⟨j + 1, by omega, by go_num, by rw [HCT.out], by rw [HCMT.out], by rw [HAN.out.1], by rw [HAN.out.2]; exact HQ9.out, HK9.out⟩
                  case measure => simp [intOf]; omega
                · have HSTEP := Lib.hid (HSTP.out rw0 (by rw [CS.up, if_neg hab]))
                  have HAB := Lib.hid (Bool.eq_false_iff.2 hab)
                  clear hab
                  have HCT : Hid (((csOf view (vs.take (j + 1))).nodes.length : Int) = (l.length : Int)) := Lib.hid (by rw [HTK.out, HSTEP.out]; simp only [if_pos HMEM.out])
                  have HCMT : Hid ((csOf view (vs.take (j + 1))).commit = v.commit) := Lib.hid (by rw [HTK.out, HSTEP.out]; simp only [if_pos HCQ.out])
                  have HAN : Hid ((csOf view (vs.take (j + 1))).best.isSome = true ∧ (csOf view (vs.take (j + 1))).row = rw0) := Lib.hid (by rw [HTK.out, HSTEP.out]; exact ⟨rfl, rfl⟩)
                  go_wp2
                  refine wp_region_do [[], [0], [1], [2], [2], [3, 4, 2], [5, 2], [2], [6, 7, 2, 2], [2, 8]]
                    [some 70, some 71, some 72, some 73, some 74, some 75, some 76, some 77, some 78, some 79]
                    [.is (.bool true), .is (.bool false), .is (.bool false), .is (.slice (some ⟨g, off, none⟩) n c), .is (.int .i64 (j : Int)), .is (.pointer (some ⟨g, off + j * 37, none⟩)), .is (.agg v.cells.toArray), .is (.agg rw0.cells.toArray), .is (.bool false), .is (.bool false)]
                    16 _ _ 91 10 (by kernel_rfl) (by rfl) (by rfl) (by kernel_rfl) (by kernel_rfl) (by decide) ?_ ?_
                  · refine ⟨?_, ?_, ?_, ?_, ?_, ?_, ?_, ?_, ?_, ?_, trivial⟩
                    · intro a w' K hs' hdep hfr hK
                      have f12 := hfr 12 (by decide)
                      exact plan_do (by rfl) (plan_yield (i := 0) (V := fun _ _ v => v = (.bool true : Value)) (.bool true) (by go_simp) rfl hK)
                    · intro a w' K hs' hdep hfr hK
                      have e70 : a.tmps[70]?.getD undef = (.bool true) := hdep 0 (by decide) 70 rfl
                      exact plan_do (by rfl) (plan_yield (i := 1) (V := fun _ _ v => v = (.bool false : Value)) (.bool false) (by go_simp) rfl hK)
                    · intro a w' K hs' hdep hfr hK
                      have e71 : a.tmps[71]?.getD undef = (.bool false) := hdep 1 (by decide) 71 rfl
                      exact plan_do (by rfl) (plan_yield (i := 2) (V := fun _ _ v => v = (.bool false : Value)) (.bool false) (by go_simp) rfl hK)
                    · intro a w' K hs' hdep hfr hK
                      have e72 : a.tmps[72]?.getD undef = (.bool false) := hdep 2 (by decide) 72 rfl
                      have f0 := hfr 0 (by decide)
                      exact plan_do (wanted_of 2 72 false rfl rfl e72) (plan_yield (i := 3) (V := fun _ _ v => v = (.slice (some ⟨g, off, none⟩) n c : Value)) (.slice (some ⟨g, off, none⟩) n c) (by go_simp) rfl hK)
                    · intro a w' K hs' hdep hfr hK
                      have e72 : a.tmps[72]?.getD undef = (.bool false) := hdep 2 (by decide) 72 rfl
                      have f13 := hfr 13 (by decide)
                      exact plan_do (wanted_of 2 72 false rfl rfl e72) (plan_yield (i := 4) (V := fun _ _ v => v = (.int .i64 (j : Int) : Value)) (.int .i64 (j : Int)) (by go_simp) rfl hK)
                    · intro a w' K hs' hdep hfr hK
                      have e73 : a.tmps[73]?.getD undef = (.slice (some ⟨g, off, none⟩) n c) := hdep 3 (by decide) 73 rfl
                      have e74 : a.tmps[74]?.getD undef = (.int .i64 (j : Int)) := hdep 4 (by decide) 74 rfl
                      have e72 : a.tmps[72]?.getD undef = (.bool false) := hdep 2 (by decide) 72 rfl
                      have hin : (j : Int) < (n : Int) := by omega
                      exact plan_do (wanted_of 2 72 false rfl rfl e72) (plan_yield (i := 5) (V := fun _ _ v => v = (.pointer (some ⟨g, off + j * 37, none⟩) : Value)) (.pointer (some ⟨g, off + j * 37, none⟩)) (by go_simp) rfl hK)
                    · intro a w' K hs' hdep hfr hK
                      have e75 : a.tmps[75]?.getD undef = (.pointer (some ⟨g, off + j * 37, none⟩)) := hdep 5 (by decide) 75 rfl
                      have e72 : a.tmps[72]?.getD undef = (.bool false) := hdep 2 (by decide) 72 rfl
                      exact plan_do (wanted_of 2 72 false rfl rfl e72) (wp_load_mid (P := Try.prog) 31 (.tmp 75) rfl g (off + j * 37) ((eval_tmp _ _).trans e75) v.cells _ (range_sameV HRA2.out hs') Try.underlying31 rfl HSL.out (hK _ _ (Keeps.refl _ _) rfl))
                    · intro a w' K hs' hdep hfr hK
                      have e72 : a.tmps[72]?.getD undef = (.bool false) := hdep 2 (by decide) 72 rfl
                      have f11 := hfr 11 (by decide)
                      exact plan_do (wanted_of 2 72 false rfl rfl e72) (wp_load_row (P := Try.prog) 31 (.tmp 11) rfl B ((eval_tmp _ _).trans f11) 31 rw0.cells.toArray (0, 0) _ (HB2.out.keep hs' (fun e => e)) Try.underlying31 rfl (size_vote _ HRH.out) (hK _ _ (Keeps.refl _ _) rfl))
                    · intro a w' K hs' hdep hfr hK
                      have e76 : a.tmps[76]?.getD undef = (.agg v.cells.toArray) := hdep 6 (by decide) 76 rfl
                      have e77 : a.tmps[77]?.getD undef = (.agg rw0.cells.toArray) := hdep 7 (by decide) 77 rfl
                      have e72 : a.tmps[72]?.getD undef = (.bool false) := hdep 2 (by decide) 72 rfl
                      refine plan_do (wanted_of 2 72 false rfl rfl e72) (plan_call 23 #[.agg v.cells.toArray, .agg rw0.cells.toArray] (by go_simp) ?_)
                      exact (above_any v rw0 w' HVO.out.head HRH.out).mono fun e w'' ⟨he, hk⟩ => ⟨_, by rw [HAB.out] at he; exact he, hK _ _ hk rfl⟩
                    · intro a w' K hs' hdep hfr hK
                      have e72 : a.tmps[72]?.getD undef = (.bool false) := hdep 2 (by decide) 72 rfl
                      have e78 : a.tmps[78]?.getD undef = (.bool false) := hdep 8 (by decide) 78 rfl
                      exact plan_do (by rfl) (plan_yield (i := 9) (V := fun _ _ v => v = (.bool false : Value)) (.bool false) (by go_simp) rfl hK)
                  intro a wz hkz hdef hsz hv hfr
                  have e79 : a.tmps[79]?.getD undef = (.bool false) := hv 9 79 rfl
                  have he := act_eq a _ [some 70, some 71, some 72, some 73, some 74, some 75, some 76, some 77, some 78, some 79] 91 rfl hsz hdef hfr (fun d => a.tmps[d]?.getD undef) (fun _ _ => rfl)
                  obtain ⟨v70, h70⟩ : ∃ v, a.tmps[70]?.getD undef = v := ⟨_, rfl⟩
                  obtain ⟨v71, h71⟩ : ∃ v, a.tmps[71]?.getD undef = v := ⟨_, rfl⟩
                  obtain ⟨v72, h72⟩ : ∃ v, a.tmps[72]?.getD undef = v := ⟨_, rfl⟩
                  obtain ⟨v73, h73⟩ : ∃ v, a.tmps[73]?.getD undef = v := ⟨_, rfl⟩
                  obtain ⟨v74, h74⟩ : ∃ v, a.tmps[74]?.getD undef = v := ⟨_, rfl⟩
                  obtain ⟨v75, h75⟩ : ∃ v, a.tmps[75]?.getD undef = v := ⟨_, rfl⟩
                  obtain ⟨v76, h76⟩ : ∃ v, a.tmps[76]?.getD undef = v := ⟨_, rfl⟩
                  obtain ⟨v77, h77⟩ : ∃ v, a.tmps[77]?.getD undef = v := ⟨_, rfl⟩
                  obtain ⟨v78, h78⟩ : ∃ v, a.tmps[78]?.getD undef = v := ⟨_, rfl⟩
                  simp only [putAll, e79, h70, h71, h72, h73, h74, h75, h76, h77, h78, List.setIfInBounds_toArray, List.set_cons_zero, List.set_cons_succ] at he
                  clear e79 h70 h71 h72 h73 h74 h75 h76 h77 h78 hdef hsz hv hfr
                  subst he
                  have HKZ := Lib.hid hkz
                  clear hkz
                  go_wp2
                  go_roundw
                  case rel => exact ⟨j + 1, by omega, by go_num, by rw [HCT.out], by rw [HCMT.out], by rw [HAN.out.1], by rw [HAN.out.2]; exact HB2.out.keep HKZ.out (fun e => e), HK2.out.trans HKZ.out (fun _ _ e => e.elim)⟩
                  case measure => simp [intOf]; omega
            · have HCQ := Lib.hid hcq
              cases hbest : s.best with
              | none =>
                rw [hbest] at HSTP
                have HSTEP := Lib.hid (HSTP.out v rfl)
                have hsom : (Option.isSome (none : Option VoteX)) = false := rfl
                rw [hsom]
                clear hbest hsom
                have HCT : Hid (((csOf view (vs.take (j + 1))).nodes.length : Int) = (l.length : Int)) := Lib.hid (by rw [HTK.out, HSTEP.out]; simp only [if_pos HMEM.out])
                have HCMT : Hid ((csOf view (vs.take (j + 1))).commit = cm) := Lib.hid (by rw [HTK.out, HSTEP.out]; simp only [if_neg HCQ.out])
                have HAN : Hid ((csOf view (vs.take (j + 1))).best.isSome = true ∧ (csOf view (vs.take (j + 1))).row = v) := Lib.hid (by rw [HTK.out, HSTEP.out]; exact ⟨rfl, rfl⟩)
                go_wp2
                refine wp_region_do [[], [0], [1], [2], [2], [3, 4, 2], [5, 2], [2], [6, 7, 2, 2], [2, 8]]
                  [some 70, some 71, some 72, some 73, some 74, some 75, some 76, some 77, some 78, some 79]
                  [.is (.bool false), .is (.bool true), .is (.bool true), .any, .any, .any, .any, .any, .any, .is (.bool true)]
                  16 _ _ 91 10 (by kernel_rfl) (by rfl) (by rfl) (by kernel_rfl) (by kernel_rfl) (by decide) ?_ ?_
                · refine ⟨?_, ?_, ?_, ?_, ?_, ?_, ?_, ?_, ?_, ?_, trivial⟩
                  · intro a w' K hs' hdep hfr hK
                    have f12 := hfr 12 (by decide)
                    exact plan_do (by rfl) (plan_yield (i := 0) (V := fun _ _ v => v = (.bool false : Value)) (.bool false) (by go_simp) rfl hK)
                  · intro a w' K hs' hdep hfr hK
                    have e70 : a.tmps[70]?.getD undef = (.bool false) := hdep 0 (by decide) 70 rfl
                    exact plan_do (by rfl) (plan_yield (i := 1) (V := fun _ _ v => v = (.bool true : Value)) (.bool true) (by go_simp) rfl hK)
                  · intro a w' K hs' hdep hfr hK
                    have e71 : a.tmps[71]?.getD undef = (.bool true) := hdep 1 (by decide) 71 rfl
                    exact plan_do (by rfl) (plan_yield (i := 2) (V := fun _ _ v => v = (.bool true : Value)) (.bool true) (by go_simp) rfl hK)
                  · intro a w' K hs' hdep hfr hK
                    have e72 : a.tmps[72]?.getD undef = (.bool true) := hdep 2 (by decide) 72 rfl
                    have f0 := hfr 0 (by decide)
                    exact plan_skip (unwanted_by 2 72 false rfl rfl e72) (hK _ _ (Keeps.refl _ _) trivial)
                  · intro a w' K hs' hdep hfr hK
                    have e72 : a.tmps[72]?.getD undef = (.bool true) := hdep 2 (by decide) 72 rfl
                    have f13 := hfr 13 (by decide)
                    exact plan_skip (unwanted_by 2 72 false rfl rfl e72) (hK _ _ (Keeps.refl _ _) trivial)
                  · intro a w' K hs' hdep hfr hK
                    have e72 : a.tmps[72]?.getD undef = (.bool true) := hdep 2 (by decide) 72 rfl
                    exact plan_skip (unwanted_by 2 72 false rfl rfl e72) (hK _ _ (Keeps.refl _ _) trivial)
                  · intro a w' K hs' hdep hfr hK
                    have e72 : a.tmps[72]?.getD undef = (.bool true) := hdep 2 (by decide) 72 rfl
                    exact plan_skip (unwanted_by 2 72 false rfl rfl e72) (hK _ _ (Keeps.refl _ _) trivial)
                  · intro a w' K hs' hdep hfr hK
                    have e72 : a.tmps[72]?.getD undef = (.bool true) := hdep 2 (by decide) 72 rfl
                    have f11 := hfr 11 (by decide)
                    exact plan_skip (unwanted_by 2 72 false rfl rfl e72) (hK _ _ (Keeps.refl _ _) trivial)
                  · intro a w' K hs' hdep hfr hK
                    have e72 : a.tmps[72]?.getD undef = (.bool true) := hdep 2 (by decide) 72 rfl
                    exact plan_skip (unwanted_by 2 72 false rfl rfl e72) (hK _ _ (Keeps.refl _ _) trivial)
                  · intro a w' K hs' hdep hfr hK
                    have e72 : a.tmps[72]?.getD undef = (.bool true) := hdep 2 (by decide) 72 rfl
                    exact plan_do (by rfl) (plan_yield (i := 9) (V := fun _ _ v => v = (.bool true : Value)) (.bool true) (by go_simp) rfl hK)
                intro a wz hkz hdef hsz hv hfr
                have e79 : a.tmps[79]?.getD undef = (.bool true) := hv 9 79 rfl
                have he := act_eq a _ [some 70, some 71, some 72, some 73, some 74, some 75, some 76, some 77, some 78, some 79] 91 rfl hsz hdef hfr (fun d => a.tmps[d]?.getD undef) (fun _ _ => rfl)
                obtain ⟨v70, h70⟩ : ∃ v, a.tmps[70]?.getD undef = v := ⟨_, rfl⟩
                obtain ⟨v71, h71⟩ : ∃ v, a.tmps[71]?.getD undef = v := ⟨_, rfl⟩
                obtain ⟨v72, h72⟩ : ∃ v, a.tmps[72]?.getD undef = v := ⟨_, rfl⟩
                obtain ⟨v73, h73⟩ : ∃ v, a.tmps[73]?.getD undef = v := ⟨_, rfl⟩
                obtain ⟨v74, h74⟩ : ∃ v, a.tmps[74]?.getD undef = v := ⟨_, rfl⟩
                obtain ⟨v75, h75⟩ : ∃ v, a.tmps[75]?.getD undef = v := ⟨_, rfl⟩
                obtain ⟨v76, h76⟩ : ∃ v, a.tmps[76]?.getD undef = v := ⟨_, rfl⟩
                obtain ⟨v77, h77⟩ : ∃ v, a.tmps[77]?.getD undef = v := ⟨_, rfl⟩
                obtain ⟨v78, h78⟩ : ∃ v, a.tmps[78]?.getD undef = v := ⟨_, rfl⟩
                simp only [putAll, e79, h70, h71, h72, h73, h74, h75, h76, h77, h78, List.setIfInBounds_toArray, List.set_cons_zero, List.set_cons_succ] at he
                clear e79 h70 h71 h72 h73 h74 h75 h76 h77 h78 hdef hsz hv hfr
                subst he
                have HKZ := Lib.hid hkz
                clear hkz
                obtain ⟨w9, hw9⟩ : ∃ w9, wz.setRow B v.cells.toArray = w9 := ⟨_, rfl⟩
                have HBZ := Lib.hid (HB2.out.keep HKZ.out (fun e => e))
                have HRZ := Lib.hid (range_sameV HRA2.out HKZ.out)
                have HQ9 : Hid (Whole w9 B 31 v.cells) := Lib.hid (by rw [← hw9]; exact HBZ.out.row)
                have HK9 : Hid (Keeps (fun q => q = B) w0 w9) := Lib.hid (by rw [← hw9]; exact (HK2.out.trans HKZ.out (fun _ _ e => e.elim)).setRow _ _ (.inr rfl))
                have HW9 := Lib.hid hw9
                clear hw9
                go_wp2_with (first
                  | (refine wpList_load_mid (by rfl) 31 _ (by rfl) g (off + j * 37) (by rfl) v.cells _ HRZ.out Try.underlying31 rfl HSL.out ?_)
                  | (refine wpList_store_row (by rfl) 31 _ _ (by rfl) B v.cells.toArray (by rfl) (by rfl) 31 rw0.cells.toArray HBZ.out HSV.out HSR.out HAL.out ?_; rw [HW9.out]))
                go_roundw
                case rel => exact ⟨j + 1, by omega, by go_num, by rw [HCT.out], by rw [HCMT.out], by rw [HAN.out.1], by rw [HAN.out.2]; exact HQ9.out, HK9.out⟩
                case measure => simp [intOf]; omega
              | some b =>
                obtain rfl := HROW.out b hbest
                rw [hbest] at HSTP
                obtain ⟨rw0, hrw0⟩ : ∃ r, b = r := ⟨_, rfl⟩
                have hsom : (Option.isSome (some b)) = true := rfl
                rw [hsom]
                rw [hrw0] at HSTP HB2 HRH HSR
                clear hbest hsom hrw0
                by_cases hab : above v rw0 = true
                · have HSTEP := Lib.hid (HSTP.out v (by rw [CS.up, if_pos hab]))
                  have HAB := Lib.hid hab
                  clear hab
                  have HCT : Hid (((csOf view (vs.take (j + 1))).nodes.length : Int) = (l.length : Int)) := Lib.hid (by rw [HTK.out, HSTEP.out]; simp only [if_pos HMEM.out])
                  have HCMT : Hid ((csOf view (vs.take (j + 1))).commit = cm) := Lib.hid (by rw [HTK.out, HSTEP.out]; simp only [if_neg HCQ.out])
                  have HAN : Hid ((csOf view (vs.take (j + 1))).best.isSome = true ∧ (csOf view (vs.take (j + 1))).row = v) := Lib.hid (by rw [HTK.out, HSTEP.out]; exact ⟨rfl, rfl⟩)
                  go_wp2
                  refine wp_region_do [[], [0], [1], [2], [2], [3, 4, 2], [5, 2], [2], [6, 7, 2, 2], [2, 8]]
                    [some 70, some 71, some 72, some 73, some 74, some 75, some 76, some 77, some 78, some 79]
                    [.is (.bool true), .is (.bool false), .is (.bool false), .is (.slice (some ⟨g, off, none⟩) n c), .is (.int .i64 (j : Int)), .is (.pointer (some ⟨g, off + j * 37, none⟩)), .is (.agg v.cells.toArray), .is (.agg rw0.cells.toArray), .is (.bool true), .is (.bool true)]
                    16 _ _ 91 10 (by kernel_rfl) (by rfl) (by rfl) (by kernel_rfl) (by kernel_rfl) (by decide) ?_ ?_
                  · refine ⟨?_, ?_, ?_, ?_, ?_, ?_, ?_, ?_, ?_, ?_, trivial⟩
                    · intro a w' K hs' hdep hfr hK
                      have f12 := hfr 12 (by decide)
                      exact plan_do (by rfl) (plan_yield (i := 0) (V := fun _ _ v => v = (.bool true : Value)) (.bool true) (by go_simp) rfl hK)
                    · intro a w' K hs' hdep hfr hK
                      have e70 : a.tmps[70]?.getD undef = (.bool true) := hdep 0 (by decide) 70 rfl
                      exact plan_do (by rfl) (plan_yield (i := 1) (V := fun _ _ v => v = (.bool false : Value)) (.bool false) (by go_simp) rfl hK)
                    · intro a w' K hs' hdep hfr hK
                      have e71 : a.tmps[71]?.getD undef = (.bool false) := hdep 1 (by decide) 71 rfl
                      exact plan_do (by rfl) (plan_yield (i := 2) (V := fun _ _ v => v = (.bool false : Value)) (.bool false) (by go_simp) rfl hK)
                    · intro a w' K hs' hdep hfr hK
                      have e72 : a.tmps[72]?.getD undef = (.bool false) := hdep 2 (by decide) 72 rfl
                      have f0 := hfr 0 (by decide)
                      exact plan_do (wanted_of 2 72 false rfl rfl e72) (plan_yield (i := 3) (V := fun _ _ v => v = (.slice (some ⟨g, off, none⟩) n c : Value)) (.slice (some ⟨g, off, none⟩) n c) (by go_simp) rfl hK)
                    · intro a w' K hs' hdep hfr hK
                      have e72 : a.tmps[72]?.getD undef = (.bool false) := hdep 2 (by decide) 72 rfl
                      have f13 := hfr 13 (by decide)
                      exact plan_do (wanted_of 2 72 false rfl rfl e72) (plan_yield (i := 4) (V := fun _ _ v => v = (.int .i64 (j : Int) : Value)) (.int .i64 (j : Int)) (by go_simp) rfl hK)
                    · intro a w' K hs' hdep hfr hK
                      have e73 : a.tmps[73]?.getD undef = (.slice (some ⟨g, off, none⟩) n c) := hdep 3 (by decide) 73 rfl
                      have e74 : a.tmps[74]?.getD undef = (.int .i64 (j : Int)) := hdep 4 (by decide) 74 rfl
                      have e72 : a.tmps[72]?.getD undef = (.bool false) := hdep 2 (by decide) 72 rfl
                      have hin : (j : Int) < (n : Int) := by omega
                      exact plan_do (wanted_of 2 72 false rfl rfl e72) (plan_yield (i := 5) (V := fun _ _ v => v = (.pointer (some ⟨g, off + j * 37, none⟩) : Value)) (.pointer (some ⟨g, off + j * 37, none⟩)) (by go_simp) rfl hK)
                    · intro a w' K hs' hdep hfr hK
                      have e75 : a.tmps[75]?.getD undef = (.pointer (some ⟨g, off + j * 37, none⟩)) := hdep 5 (by decide) 75 rfl
                      have e72 : a.tmps[72]?.getD undef = (.bool false) := hdep 2 (by decide) 72 rfl
                      exact plan_do (wanted_of 2 72 false rfl rfl e72) (wp_load_mid (P := Try.prog) 31 (.tmp 75) rfl g (off + j * 37) ((eval_tmp _ _).trans e75) v.cells _ (range_sameV HRA2.out hs') Try.underlying31 rfl HSL.out (hK _ _ (Keeps.refl _ _) rfl))
                    · intro a w' K hs' hdep hfr hK
                      have e72 : a.tmps[72]?.getD undef = (.bool false) := hdep 2 (by decide) 72 rfl
                      have f11 := hfr 11 (by decide)
                      exact plan_do (wanted_of 2 72 false rfl rfl e72) (wp_load_row (P := Try.prog) 31 (.tmp 11) rfl B ((eval_tmp _ _).trans f11) 31 rw0.cells.toArray (0, 0) _ (HB2.out.keep hs' (fun e => e)) Try.underlying31 rfl (size_vote _ HRH.out) (hK _ _ (Keeps.refl _ _) rfl))
                    · intro a w' K hs' hdep hfr hK
                      have e76 : a.tmps[76]?.getD undef = (.agg v.cells.toArray) := hdep 6 (by decide) 76 rfl
                      have e77 : a.tmps[77]?.getD undef = (.agg rw0.cells.toArray) := hdep 7 (by decide) 77 rfl
                      have e72 : a.tmps[72]?.getD undef = (.bool false) := hdep 2 (by decide) 72 rfl
                      refine plan_do (wanted_of 2 72 false rfl rfl e72) (plan_call 23 #[.agg v.cells.toArray, .agg rw0.cells.toArray] (by go_simp) ?_)
                      exact (above_any v rw0 w' HVO.out.head HRH.out).mono fun e w'' ⟨he, hk⟩ => ⟨_, by rw [HAB.out] at he; exact he, hK _ _ hk rfl⟩
                    · intro a w' K hs' hdep hfr hK
                      have e72 : a.tmps[72]?.getD undef = (.bool false) := hdep 2 (by decide) 72 rfl
                      have e78 : a.tmps[78]?.getD undef = (.bool true) := hdep 8 (by decide) 78 rfl
                      exact plan_do (by rfl) (plan_yield (i := 9) (V := fun _ _ v => v = (.bool true : Value)) (.bool true) (by go_simp) rfl hK)
                  intro a wz hkz hdef hsz hv hfr
                  have e79 : a.tmps[79]?.getD undef = (.bool true) := hv 9 79 rfl
                  have he := act_eq a _ [some 70, some 71, some 72, some 73, some 74, some 75, some 76, some 77, some 78, some 79] 91 rfl hsz hdef hfr (fun d => a.tmps[d]?.getD undef) (fun _ _ => rfl)
                  obtain ⟨v70, h70⟩ : ∃ v, a.tmps[70]?.getD undef = v := ⟨_, rfl⟩
                  obtain ⟨v71, h71⟩ : ∃ v, a.tmps[71]?.getD undef = v := ⟨_, rfl⟩
                  obtain ⟨v72, h72⟩ : ∃ v, a.tmps[72]?.getD undef = v := ⟨_, rfl⟩
                  obtain ⟨v73, h73⟩ : ∃ v, a.tmps[73]?.getD undef = v := ⟨_, rfl⟩
                  obtain ⟨v74, h74⟩ : ∃ v, a.tmps[74]?.getD undef = v := ⟨_, rfl⟩
                  obtain ⟨v75, h75⟩ : ∃ v, a.tmps[75]?.getD undef = v := ⟨_, rfl⟩
                  obtain ⟨v76, h76⟩ : ∃ v, a.tmps[76]?.getD undef = v := ⟨_, rfl⟩
                  obtain ⟨v77, h77⟩ : ∃ v, a.tmps[77]?.getD undef = v := ⟨_, rfl⟩
                  obtain ⟨v78, h78⟩ : ∃ v, a.tmps[78]?.getD undef = v := ⟨_, rfl⟩
                  simp only [putAll, e79, h70, h71, h72, h73, h74, h75, h76, h77, h78, List.setIfInBounds_toArray, List.set_cons_zero, List.set_cons_succ] at he
                  clear e79 h70 h71 h72 h73 h74 h75 h76 h77 h78 hdef hsz hv hfr
                  subst he
                  have HKZ := Lib.hid hkz
                  clear hkz
                  obtain ⟨w9, hw9⟩ : ∃ w9, wz.setRow B v.cells.toArray = w9 := ⟨_, rfl⟩
                  have HBZ := Lib.hid (HB2.out.keep HKZ.out (fun e => e))
                  have HRZ := Lib.hid (range_sameV HRA2.out HKZ.out)
                  have HQ9 : Hid (Whole w9 B 31 v.cells) := Lib.hid (by rw [← hw9]; exact HBZ.out.row)
                  have HK9 : Hid (Keeps (fun q => q = B) w0 w9) := Lib.hid (by rw [← hw9]; exact (HK2.out.trans HKZ.out (fun _ _ e => e.elim)).setRow _ _ (.inr rfl))
                  have HW9 := Lib.hid hw9
                  clear hw9
                  go_wp2_with (first
                    | (refine wpList_load_mid (by rfl) 31 _ (by rfl) g (off + j * 37) (by rfl) v.cells _ HRZ.out Try.underlying31 rfl HSL.out ?_)
                    | (refine wpList_store_row (by rfl) 31 _ _ (by rfl) B v.cells.toArray (by rfl) (by rfl) 31 rw0.cells.toArray HBZ.out HSV.out HSR.out HAL.out ?_; rw [HW9.out]))
                  go_roundw
                  case rel => exact ⟨j + 1, by omega, by go_num, by rw [HCT.out], by rw [HCMT.out], by rw [HAN.out.1], by rw [HAN.out.2]; exact HQ9.out, HK9.out⟩
                  case measure => simp [intOf]; omega
                · have HSTEP := Lib.hid (HSTP.out rw0 (by rw [CS.up, if_neg hab]))
                  have HAB := Lib.hid (Bool.eq_false_iff.2 hab)
                  clear hab
                  have HCT : Hid (((csOf view (vs.take (j + 1))).nodes.length : Int) = (l.length : Int)) := Lib.hid (by rw [HTK.out, HSTEP.out]; simp only [if_pos HMEM.out])
                  have HCMT : Hid ((csOf view (vs.take (j + 1))).commit = cm) := Lib.hid (by rw [HTK.out, HSTEP.out]; simp only [if_neg HCQ.out])
                  have HAN : Hid ((csOf view (vs.take (j + 1))).best.isSome = true ∧ (csOf view (vs.take (j + 1))).row = rw0) := Lib.hid (by rw [HTK.out, HSTEP.out]; exact ⟨rfl, rfl⟩)
                  go_wp2
                  refine wp_region_do [[], [0], [1], [2], [2], [3, 4, 2], [5, 2], [2], [6, 7, 2, 2], [2, 8]]
                    [some 70, some 71, some 72, some 73, some 74, some 75, some 76, some 77, some 78, some 79]
                    [.is (.bool true), .is (.bool false), .is (.bool false), .is (.slice (some ⟨g, off, none⟩) n c), .is (.int .i64 (j : Int)), .is (.pointer (some ⟨g, off + j * 37, none⟩)), .is (.agg v.cells.toArray), .is (.agg rw0.cells.toArray), .is (.bool false), .is (.bool false)]
                    16 _ _ 91 10 (by kernel_rfl) (by rfl) (by rfl) (by kernel_rfl) (by kernel_rfl) (by decide) ?_ ?_
                  · refine ⟨?_, ?_, ?_, ?_, ?_, ?_, ?_, ?_, ?_, ?_, trivial⟩
                    · intro a w' K hs' hdep hfr hK
                      have f12 := hfr 12 (by decide)
                      exact plan_do (by rfl) (plan_yield (i := 0) (V := fun _ _ v => v = (.bool true : Value)) (.bool true) (by go_simp) rfl hK)
                    · intro a w' K hs' hdep hfr hK
                      have e70 : a.tmps[70]?.getD undef = (.bool true) := hdep 0 (by decide) 70 rfl
                      exact plan_do (by rfl) (plan_yield (i := 1) (V := fun _ _ v => v = (.bool false : Value)) (.bool false) (by go_simp) rfl hK)
                    · intro a w' K hs' hdep hfr hK
                      have e71 : a.tmps[71]?.getD undef = (.bool false) := hdep 1 (by decide) 71 rfl
                      exact plan_do (by rfl) (plan_yield (i := 2) (V := fun _ _ v => v = (.bool false : Value)) (.bool false) (by go_simp) rfl hK)
                    · intro a w' K hs' hdep hfr hK
                      have e72 : a.tmps[72]?.getD undef = (.bool false) := hdep 2 (by decide) 72 rfl
                      have f0 := hfr 0 (by decide)
                      exact plan_do (wanted_of 2 72 false rfl rfl e72) (plan_yield (i := 3) (V := fun _ _ v => v = (.slice (some ⟨g, off, none⟩) n c : Value)) (.slice (some ⟨g, off, none⟩) n c) (by go_simp) rfl hK)
                    · intro a w' K hs' hdep hfr hK
                      have e72 : a.tmps[72]?.getD undef = (.bool false) := hdep 2 (by decide) 72 rfl
                      have f13 := hfr 13 (by decide)
                      exact plan_do (wanted_of 2 72 false rfl rfl e72) (plan_yield (i := 4) (V := fun _ _ v => v = (.int .i64 (j : Int) : Value)) (.int .i64 (j : Int)) (by go_simp) rfl hK)
                    · intro a w' K hs' hdep hfr hK
                      have e73 : a.tmps[73]?.getD undef = (.slice (some ⟨g, off, none⟩) n c) := hdep 3 (by decide) 73 rfl
                      have e74 : a.tmps[74]?.getD undef = (.int .i64 (j : Int)) := hdep 4 (by decide) 74 rfl
                      have e72 : a.tmps[72]?.getD undef = (.bool false) := hdep 2 (by decide) 72 rfl
                      have hin : (j : Int) < (n : Int) := by omega
                      exact plan_do (wanted_of 2 72 false rfl rfl e72) (plan_yield (i := 5) (V := fun _ _ v => v = (.pointer (some ⟨g, off + j * 37, none⟩) : Value)) (.pointer (some ⟨g, off + j * 37, none⟩)) (by go_simp) rfl hK)
                    · intro a w' K hs' hdep hfr hK
                      have e75 : a.tmps[75]?.getD undef = (.pointer (some ⟨g, off + j * 37, none⟩)) := hdep 5 (by decide) 75 rfl
                      have e72 : a.tmps[72]?.getD undef = (.bool false) := hdep 2 (by decide) 72 rfl
                      exact plan_do (wanted_of 2 72 false rfl rfl e72) (wp_load_mid (P := Try.prog) 31 (.tmp 75) rfl g (off + j * 37) ((eval_tmp _ _).trans e75) v.cells _ (range_sameV HRA2.out hs') Try.underlying31 rfl HSL.out (hK _ _ (Keeps.refl _ _) rfl))
                    · intro a w' K hs' hdep hfr hK
                      have e72 : a.tmps[72]?.getD undef = (.bool false) := hdep 2 (by decide) 72 rfl
                      have f11 := hfr 11 (by decide)
                      exact plan_do (wanted_of 2 72 false rfl rfl e72) (wp_load_row (P := Try.prog) 31 (.tmp 11) rfl B ((eval_tmp _ _).trans f11) 31 rw0.cells.toArray (0, 0) _ (HB2.out.keep hs' (fun e => e)) Try.underlying31 rfl (size_vote _ HRH.out) (hK _ _ (Keeps.refl _ _) rfl))
                    · intro a w' K hs' hdep hfr hK
                      have e76 : a.tmps[76]?.getD undef = (.agg v.cells.toArray) := hdep 6 (by decide) 76 rfl
                      have e77 : a.tmps[77]?.getD undef = (.agg rw0.cells.toArray) := hdep 7 (by decide) 77 rfl
                      have e72 : a.tmps[72]?.getD undef = (.bool false) := hdep 2 (by decide) 72 rfl
                      refine plan_do (wanted_of 2 72 false rfl rfl e72) (plan_call 23 #[.agg v.cells.toArray, .agg rw0.cells.toArray] (by go_simp) ?_)
                      exact (above_any v rw0 w' HVO.out.head HRH.out).mono fun e w'' ⟨he, hk⟩ => ⟨_, by rw [HAB.out] at he; exact he, hK _ _ hk rfl⟩
                    · intro a w' K hs' hdep hfr hK
                      have e72 : a.tmps[72]?.getD undef = (.bool false) := hdep 2 (by decide) 72 rfl
                      have e78 : a.tmps[78]?.getD undef = (.bool false) := hdep 8 (by decide) 78 rfl
                      exact plan_do (by rfl) (plan_yield (i := 9) (V := fun _ _ v => v = (.bool false : Value)) (.bool false) (by go_simp) rfl hK)
                  intro a wz hkz hdef hsz hv hfr
                  have e79 : a.tmps[79]?.getD undef = (.bool false) := hv 9 79 rfl
                  have he := act_eq a _ [some 70, some 71, some 72, some 73, some 74, some 75, some 76, some 77, some 78, some 79] 91 rfl hsz hdef hfr (fun d => a.tmps[d]?.getD undef) (fun _ _ => rfl)
                  obtain ⟨v70, h70⟩ : ∃ v, a.tmps[70]?.getD undef = v := ⟨_, rfl⟩
                  obtain ⟨v71, h71⟩ : ∃ v, a.tmps[71]?.getD undef = v := ⟨_, rfl⟩
                  obtain ⟨v72, h72⟩ : ∃ v, a.tmps[72]?.getD undef = v := ⟨_, rfl⟩
                  obtain ⟨v73, h73⟩ : ∃ v, a.tmps[73]?.getD undef = v := ⟨_, rfl⟩
                  obtain ⟨v74, h74⟩ : ∃ v, a.tmps[74]?.getD undef = v := ⟨_, rfl⟩
                  obtain ⟨v75, h75⟩ : ∃ v, a.tmps[75]?.getD undef = v := ⟨_, rfl⟩
                  obtain ⟨v76, h76⟩ : ∃ v, a.tmps[76]?.getD undef = v := ⟨_, rfl⟩
                  obtain ⟨v77, h77⟩ : ∃ v, a.tmps[77]?.getD undef = v := ⟨_, rfl⟩
                  obtain ⟨v78, h78⟩ : ∃ v, a.tmps[78]?.getD undef = v := ⟨_, rfl⟩
                  simp only [putAll, e79, h70, h71, h72, h73, h74, h75, h76, h77, h78, List.setIfInBounds_toArray, List.set_cons_zero, List.set_cons_succ] at he
                  clear e79 h70 h71 h72 h73 h74 h75 h76 h77 h78 hdef hsz hv hfr
                  subst he
                  have HKZ := Lib.hid hkz
                  clear hkz
                  go_wp2
                  go_roundw
                  case rel => exact ⟨j + 1, by omega, by go_num, by rw [HCT.out], by rw [HCMT.out], by rw [HAN.out.1], by rw [HAN.out.2]; exact HB2.out.keep HKZ.out (fun e => e), HK2.out.trans HKZ.out (fun _ _ e => e.elim)⟩
                  case measure => simp [intOf]; omega
          · have HMEM := Lib.hid hmem
            have hfr : (!decide (v.node ∈ l)) = true := by simp [hmem]
            rw [hfr]
            clear hfr hmem
            by_cases hcq : cm < v.commit
            · have HCQ := Lib.hid hcq
              cases hbest : s.best with
              | none =>
                rw [hbest] at HSTP
                have HSTEP := Lib.hid (HSTP.out v rfl)
                have hsom : (Option.isSome (none : Option VoteX)) = false := rfl
                rw [hsom]
                clear hbest hsom
                have HCT : Hid (((csOf view (vs.take (j + 1))).nodes.length : Int) = (l.length : Int) + 1) := Lib.hid (by rw [HTK.out, HSTEP.out]; simp only [if_neg HMEM.out]; simp)
                have HCMT : Hid ((csOf view (vs.take (j + 1))).commit = v.commit) := Lib.hid (by rw [HTK.out, HSTEP.out]; simp only [if_pos HCQ.out])
                have HAN : Hid ((csOf view (vs.take (j + 1))).best.isSome = true ∧ (csOf view (vs.take (j + 1))).row = v) := Lib.hid (by rw [HTK.out, HSTEP.out]; exact ⟨rfl, rfl⟩)
                go_wp2
                refine wp_region_do [[], [0], [1], [2], [2], [3, 4, 2], [5, 2], [2], [6, 7, 2, 2], [2, 8]]
                  [some 70, some 71, some 72, some 73, some 74, some 75, some 76, some 77, some 78, some 79]
                  [.is (.bool false), .is (.bool true), .is (.bool true), .any, .any, .any, .any, .any, .any, .is (.bool true)]
                  16 _ _ 91 10 (by kernel_rfl) (by rfl) (by rfl) (by kernel_rfl) (by kernel_rfl) (by decide) ?_ ?_
                · refine ⟨?_, ?_, ?_, ?_, ?_, ?_, ?_, ?_, ?_, ?_, trivial⟩
                  · intro a w' K hs' hdep hfr hK
                    have f12 := hfr 12 (by decide)
                    exact plan_do (by rfl) (plan_yield (i := 0) (V := fun _ _ v => v = (.bool false : Value)) (.bool false) (by go_simp) rfl hK)
                  · intro a w' K hs' hdep hfr hK
                    have e70 : a.tmps[70]?.getD undef = (.bool false) := hdep 0 (by decide) 70 rfl
                    exact plan_do (by rfl) (plan_yield (i := 1) (V := fun _ _ v => v = (.bool true : Value)) (.bool true) (by go_simp) rfl hK)
                  · intro a w' K hs' hdep hfr hK
                    have e71 : a.tmps[71]?.getD undef = (.bool true) := hdep 1 (by decide) 71 rfl
                    exact plan_do (by rfl) (plan_yield (i := 2) (V := fun _ _ v => v = (.bool true : Value)) (.bool true) (by go_simp) rfl hK)
                  · intro a w' K hs' hdep hfr hK
                    have e72 : a.tmps[72]?.getD undef = (.bool true) := hdep 2 (by decide) 72 rfl
                    have f0 := hfr 0 (by decide)
                    exact plan_skip (unwanted_by 2 72 false rfl rfl e72) (hK _ _ (Keeps.refl _ _) trivial)
                  · intro a w' K hs' hdep hfr hK
                    have e72 : a.tmps[72]?.getD undef = (.bool true) := hdep 2 (by decide) 72 rfl
                    have f13 := hfr 13 (by decide)
                    exact plan_skip (unwanted_by 2 72 false rfl rfl e72) (hK _ _ (Keeps.refl _ _) trivial)
                  · intro a w' K hs' hdep hfr hK
                    have e72 : a.tmps[72]?.getD undef = (.bool true) := hdep 2 (by decide) 72 rfl
                    exact plan_skip (unwanted_by 2 72 false rfl rfl e72) (hK _ _ (Keeps.refl _ _) trivial)
                  · intro a w' K hs' hdep hfr hK
                    have e72 : a.tmps[72]?.getD undef = (.bool true) := hdep 2 (by decide) 72 rfl
                    exact plan_skip (unwanted_by 2 72 false rfl rfl e72) (hK _ _ (Keeps.refl _ _) trivial)
                  · intro a w' K hs' hdep hfr hK
                    have e72 : a.tmps[72]?.getD undef = (.bool true) := hdep 2 (by decide) 72 rfl
                    have f11 := hfr 11 (by decide)
                    exact plan_skip (unwanted_by 2 72 false rfl rfl e72) (hK _ _ (Keeps.refl _ _) trivial)
                  · intro a w' K hs' hdep hfr hK
                    have e72 : a.tmps[72]?.getD undef = (.bool true) := hdep 2 (by decide) 72 rfl
                    exact plan_skip (unwanted_by 2 72 false rfl rfl e72) (hK _ _ (Keeps.refl _ _) trivial)
                  · intro a w' K hs' hdep hfr hK
                    have e72 : a.tmps[72]?.getD undef = (.bool true) := hdep 2 (by decide) 72 rfl
                    exact plan_do (by rfl) (plan_yield (i := 9) (V := fun _ _ v => v = (.bool true : Value)) (.bool true) (by go_simp) rfl hK)
                intro a wz hkz hdef hsz hv hfr
                have e79 : a.tmps[79]?.getD undef = (.bool true) := hv 9 79 rfl
                have he := act_eq a _ [some 70, some 71, some 72, some 73, some 74, some 75, some 76, some 77, some 78, some 79] 91 rfl hsz hdef hfr (fun d => a.tmps[d]?.getD undef) (fun _ _ => rfl)
                obtain ⟨v70, h70⟩ : ∃ v, a.tmps[70]?.getD undef = v := ⟨_, rfl⟩
                obtain ⟨v71, h71⟩ : ∃ v, a.tmps[71]?.getD undef = v := ⟨_, rfl⟩
                obtain ⟨v72, h72⟩ : ∃ v, a.tmps[72]?.getD undef = v := ⟨_, rfl⟩
                obtain ⟨v73, h73⟩ : ∃ v, a.tmps[73]?.getD undef = v := ⟨_, rfl⟩
                obtain ⟨v74, h74⟩ : ∃ v, a.tmps[74]?.getD undef = v := ⟨_, rfl⟩
                obtain ⟨v75, h75⟩ : ∃ v, a.tmps[75]?.getD undef = v := ⟨_, rfl⟩
                obtain ⟨v76, h76⟩ : ∃ v, a.tmps[76]?.getD undef = v := ⟨_, rfl⟩
                obtain ⟨v77, h77⟩ : ∃ v, a.tmps[77]?.getD undef = v := ⟨_, rfl⟩
                obtain ⟨v78, h78⟩ : ∃ v, a.tmps[78]?.getD undef = v := ⟨_, rfl⟩
                simp only [putAll, e79, h70, h71, h72, h73, h74, h75, h76, h77, h78, List.setIfInBounds_toArray, List.set_cons_zero, List.set_cons_succ] at he
                clear e79 h70 h71 h72 h73 h74 h75 h76 h77 h78 hdef hsz hv hfr
                subst he
                have HKZ := Lib.hid hkz
                clear hkz
                obtain ⟨w9, hw9⟩ : ∃ w9, wz.setRow B v.cells.toArray = w9 := ⟨_, rfl⟩
                have HBZ := Lib.hid (HB2.out.keep HKZ.out (fun e => e))
                have HRZ := Lib.hid (range_sameV HRA2.out HKZ.out)
                have HQ9 : Hid (Whole w9 B 31 v.cells) := Lib.hid (by rw [← hw9]; exact HBZ.out.row)
                have HK9 : Hid (Keeps (fun q => q = B) w0 w9) := Lib.hid (by rw [← hw9]; exact (HK2.out.trans HKZ.out (fun _ _ e => e.elim)).setRow _ _ (.inr rfl))
                have HW9 := Lib.hid hw9
                clear hw9
                go_wp2_with (first
                  | (refine wpList_load_mid (by rfl) 31 _ (by rfl) g (off + j * 37) (by rfl) v.cells _ HRZ.out Try.underlying31 rfl HSL.out ?_)
                  | (refine wpList_store_row (by rfl) 31 _ _ (by rfl) B v.cells.toArray (by rfl) (by rfl) 31 rw0.cells.toArray HBZ.out HSV.out HSR.out HAL.out ?_; rw [HW9.out]))
                go_roundw
                case rel => exact ⟨j + 1, by omega, by go_num, by rw [HCT.out], by rw [HCMT.out], by rw [HAN.out.1], by rw [HAN.out.2]; exact HQ9.out, HK9.out⟩
                case measure => simp [intOf]; omega
              | some b =>
                obtain rfl := HROW.out b hbest
                rw [hbest] at HSTP
                obtain ⟨rw0, hrw0⟩ : ∃ r, b = r := ⟨_, rfl⟩
                have hsom : (Option.isSome (some b)) = true := rfl
                rw [hsom]
                rw [hrw0] at HSTP HB2 HRH HSR
                clear hbest hsom hrw0
                by_cases hab : above v rw0 = true
                · have HSTEP := Lib.hid (HSTP.out v (by rw [CS.up, if_pos hab]))
                  have HAB := Lib.hid hab
                  clear hab
                  have HCT : Hid (((csOf view (vs.take (j + 1))).nodes.length : Int) = (l.length : Int) + 1) := Lib.hid (by rw [HTK.out, HSTEP.out]; simp only [if_neg HMEM.out]; simp)
                  have HCMT : Hid ((csOf view (vs.take (j + 1))).commit = v.commit) := Lib.hid (by rw [HTK.out, HSTEP.out]; simp only [if_pos HCQ.out])
                  have HAN : Hid ((csOf view (vs.take (j + 1))).best.isSome = true ∧ (csOf view (vs.take (j + 1))).row = v) := Lib.hid (by rw [HTK.out, HSTEP.out]; exact ⟨rfl, rfl⟩)
                  go_wp2
                  refine wp_region_do [[], [0], [1], [2], [2], [3, 4, 2], [5, 2], [2], [6, 7, 2, 2], [2, 8]]
                    [some 70, some 71, some 72, some 73, some 74, some 75, some 76, some 77, some 78, some 79]
                    [.is (.bool true), .is (.bool false), .is (.bool false), .is (.slice (some ⟨g, off, none⟩) n c), .is (.int .i64 (j : Int)), .is (.pointer (some ⟨g, off + j * 37, none⟩)), .is (.agg v.cells.toArray), .is (.agg rw0.cells.toArray), .is (.bool true), .is (.bool true)]
                    16 _ _ 91 10 (by kernel_rfl) (by rfl) (by rfl) (by kernel_rfl) (by kernel_rfl) (by decide) ?_ ?_
                  · refine ⟨?_, ?_, ?_, ?_, ?_, ?_, ?_, ?_, ?_, ?_, trivial⟩
                    · intro a w' K hs' hdep hfr hK
                      have f12 := hfr 12 (by decide)
                      exact plan_do (by rfl) (plan_yield (i := 0) (V := fun _ _ v => v = (.bool true : Value)) (.bool true) (by go_simp) rfl hK)
                    · intro a w' K hs' hdep hfr hK
                      have e70 : a.tmps[70]?.getD undef = (.bool true) := hdep 0 (by decide) 70 rfl
                      exact plan_do (by rfl) (plan_yield (i := 1) (V := fun _ _ v => v = (.bool false : Value)) (.bool false) (by go_simp) rfl hK)
                    · intro a w' K hs' hdep hfr hK
                      have e71 : a.tmps[71]?.getD undef = (.bool false) := hdep 1 (by decide) 71 rfl
                      exact plan_do (by rfl) (plan_yield (i := 2) (V := fun _ _ v => v = (.bool false : Value)) (.bool false) (by go_simp) rfl hK)
                    · intro a w' K hs' hdep hfr hK
                      have e72 : a.tmps[72]?.getD undef = (.bool false) := hdep 2 (by decide) 72 rfl
                      have f0 := hfr 0 (by decide)
                      exact plan_do (wanted_of 2 72 false rfl rfl e72) (plan_yield (i := 3) (V := fun _ _ v => v = (.slice (some ⟨g, off, none⟩) n c : Value)) (.slice (some ⟨g, off, none⟩) n c) (by go_simp) rfl hK)
                    · intro a w' K hs' hdep hfr hK
                      have e72 : a.tmps[72]?.getD undef = (.bool false) := hdep 2 (by decide) 72 rfl
                      have f13 := hfr 13 (by decide)
                      exact plan_do (wanted_of 2 72 false rfl rfl e72) (plan_yield (i := 4) (V := fun _ _ v => v = (.int .i64 (j : Int) : Value)) (.int .i64 (j : Int)) (by go_simp) rfl hK)
                    · intro a w' K hs' hdep hfr hK
                      have e73 : a.tmps[73]?.getD undef = (.slice (some ⟨g, off, none⟩) n c) := hdep 3 (by decide) 73 rfl
                      have e74 : a.tmps[74]?.getD undef = (.int .i64 (j : Int)) := hdep 4 (by decide) 74 rfl
                      have e72 : a.tmps[72]?.getD undef = (.bool false) := hdep 2 (by decide) 72 rfl
                      have hin : (j : Int) < (n : Int) := by omega
                      exact plan_do (wanted_of 2 72 false rfl rfl e72) (plan_yield (i := 5) (V := fun _ _ v => v = (.pointer (some ⟨g, off + j * 37, none⟩) : Value)) (.pointer (some ⟨g, off + j * 37, none⟩)) (by go_simp) rfl hK)
                    · intro a w' K hs' hdep hfr hK
                      have e75 : a.tmps[75]?.getD undef = (.pointer (some ⟨g, off + j * 37, none⟩)) := hdep 5 (by decide) 75 rfl
                      have e72 : a.tmps[72]?.getD undef = (.bool false) := hdep 2 (by decide) 72 rfl
                      exact plan_do (wanted_of 2 72 false rfl rfl e72) (wp_load_mid (P := Try.prog) 31 (.tmp 75) rfl g (off + j * 37) ((eval_tmp _ _).trans e75) v.cells _ (range_sameV HRA2.out hs') Try.underlying31 rfl HSL.out (hK _ _ (Keeps.refl _ _) rfl))
                    · intro a w' K hs' hdep hfr hK
                      have e72 : a.tmps[72]?.getD undef = (.bool false) := hdep 2 (by decide) 72 rfl
                      have f11 := hfr 11 (by decide)
                      exact plan_do (wanted_of 2 72 false rfl rfl e72) (wp_load_row (P := Try.prog) 31 (.tmp 11) rfl B ((eval_tmp _ _).trans f11) 31 rw0.cells.toArray (0, 0) _ (HB2.out.keep hs' (fun e => e)) Try.underlying31 rfl (size_vote _ HRH.out) (hK _ _ (Keeps.refl _ _) rfl))
                    · intro a w' K hs' hdep hfr hK
                      have e76 : a.tmps[76]?.getD undef = (.agg v.cells.toArray) := hdep 6 (by decide) 76 rfl
                      have e77 : a.tmps[77]?.getD undef = (.agg rw0.cells.toArray) := hdep 7 (by decide) 77 rfl
                      have e72 : a.tmps[72]?.getD undef = (.bool false) := hdep 2 (by decide) 72 rfl
                      refine plan_do (wanted_of 2 72 false rfl rfl e72) (plan_call 23 #[.agg v.cells.toArray, .agg rw0.cells.toArray] (by go_simp) ?_)
                      exact (above_any v rw0 w' HVO.out.head HRH.out).mono fun e w'' ⟨he, hk⟩ => ⟨_, by rw [HAB.out] at he; exact he, hK _ _ hk rfl⟩
                    · intro a w' K hs' hdep hfr hK
                      have e72 : a.tmps[72]?.getD undef = (.bool false) := hdep 2 (by decide) 72 rfl
                      have e78 : a.tmps[78]?.getD undef = (.bool true) := hdep 8 (by decide) 78 rfl
                      exact plan_do (by rfl) (plan_yield (i := 9) (V := fun _ _ v => v = (.bool true : Value)) (.bool true) (by go_simp) rfl hK)
                  intro a wz hkz hdef hsz hv hfr
                  have e79 : a.tmps[79]?.getD undef = (.bool true) := hv 9 79 rfl
                  have he := act_eq a _ [some 70, some 71, some 72, some 73, some 74, some 75, some 76, some 77, some 78, some 79] 91 rfl hsz hdef hfr (fun d => a.tmps[d]?.getD undef) (fun _ _ => rfl)
                  obtain ⟨v70, h70⟩ : ∃ v, a.tmps[70]?.getD undef = v := ⟨_, rfl⟩
                  obtain ⟨v71, h71⟩ : ∃ v, a.tmps[71]?.getD undef = v := ⟨_, rfl⟩
                  obtain ⟨v72, h72⟩ : ∃ v, a.tmps[72]?.getD undef = v := ⟨_, rfl⟩
                  obtain ⟨v73, h73⟩ : ∃ v, a.tmps[73]?.getD undef = v := ⟨_, rfl⟩
                  obtain ⟨v74, h74⟩ : ∃ v, a.tmps[74]?.getD undef = v := ⟨_, rfl⟩
                  obtain ⟨v75, h75⟩ : ∃ v, a.tmps[75]?.getD undef = v := ⟨_, rfl⟩
                  obtain ⟨v76, h76⟩ : ∃ v, a.tmps[76]?.getD undef = v := ⟨_, rfl⟩
                  obtain ⟨v77, h77⟩ : ∃ v, a.tmps[77]?.getD undef = v := ⟨_, rfl⟩
                  obtain ⟨v78, h78⟩ : ∃ v, a.tmps[78]?.getD undef = v := ⟨_, rfl⟩
                  simp only [putAll, e79, h70, h71, h72, h73, h74, h75, h76, h77, h78, List.setIfInBounds_toArray, List.set_cons_zero, List.set_cons_succ] at he
                  clear e79 h70 h71 h72 h73 h74 h75 h76 h77 h78 hdef hsz hv hfr
                  subst he
                  have HKZ := Lib.hid hkz
                  clear hkz
                  obtain ⟨w9, hw9⟩ : ∃ w9, wz.setRow B v.cells.toArray = w9 := ⟨_, rfl⟩
                  have HBZ := Lib.hid (HB2.out.keep HKZ.out (fun e => e))
                  have HRZ := Lib.hid (range_sameV HRA2.out HKZ.out)
                  have HQ9 : Hid (Whole w9 B 31 v.cells) := Lib.hid (by rw [← hw9]; exact HBZ.out.row)
                  have HK9 : Hid (Keeps (fun q => q = B) w0 w9) := Lib.hid (by rw [← hw9]; exact (HK2.out.trans HKZ.out (fun _ _ e => e.elim)).setRow _ _ (.inr rfl))
                  have HW9 := Lib.hid hw9
                  clear hw9
                  go_wp2_with (first
                    | (refine wpList_load_mid (by rfl) 31 _ (by rfl) g (off + j * 37) (by rfl) v.cells _ HRZ.out Try.underlying31 rfl HSL.out ?_)
                    | (refine wpList_store_row (by rfl) 31 _ _ (by rfl) B v.cells.toArray (by rfl) (by rfl) 31 rw0.cells.toArray HBZ.out HSV.out HSR.out HAL.out ?_; rw [HW9.out]))
                  go_roundw
                  case rel => exact ⟨j + 1, by omega, by go_num, by rw [HCT.out], by rw [HCMT.out], by rw [HAN.out.1], by rw [HAN.out.2]; exact HQ9.out, HK9.out⟩
                  case measure => simp [intOf]; omega
                · have HSTEP := Lib.hid (HSTP.out rw0 (by rw [CS.up, if_neg hab]))
                  have HAB := Lib.hid (Bool.eq_false_iff.2 hab)
                  clear hab
                  have HCT : Hid (((csOf view (vs.take (j + 1))).nodes.length : Int) = (l.length : Int) + 1) := Lib.hid (by rw [HTK.out, HSTEP.out]; simp only [if_neg HMEM.out]; simp)
                  have HCMT : Hid ((csOf view (vs.take (j + 1))).commit = v.commit) := Lib.hid (by rw [HTK.out, HSTEP.out]; simp only [if_pos HCQ.out])
                  have HAN : Hid ((csOf view (vs.take (j + 1))).best.isSome = true ∧ (csOf view (vs.take (j + 1))).row = rw0) := Lib.hid (by rw [HTK.out, HSTEP.out]; exact ⟨rfl, rfl⟩)
                  go_wp2
                  refine wp_region_do [[], [0], [1], [2], [2], [3, 4, 2], [5, 2], [2], [6, 7, 2, 2], [2, 8]]
                    [some 70, some 71, some 72, some 73, some 74, some 75, some 76, some 77, some 78, some 79]
                    [.is (.bool true), .is (.bool false), .is (.bool false), .is (.slice (some ⟨g, off, none⟩) n c), .is (.int .i64 (j : Int)), .is (.pointer (some ⟨g, off + j * 37, none⟩)), .is (.agg v.cells.toArray), .is (.agg rw0.cells.toArray), .is (.bool false), .is (.bool false)]
                    16 _ _ 91 10 (by kernel_rfl) (by rfl) (by rfl) (by kernel_rfl) (by kernel_rfl) (by decide) ?_ ?_
                  · refine ⟨?_, ?_, ?_, ?_, ?_, ?_, ?_, ?_, ?_, ?_, trivial⟩
                    · intro a w' K hs' hdep hfr hK
                      have f12 := hfr 12 (by decide)
                      exact plan_do (by rfl) (plan_yield (i := 0) (V := fun _ _ v => v = (.bool true : Value)) (.bool true) (by go_simp) rfl hK)
                    · intro a w' K hs' hdep hfr hK
                      have e70 : a.tmps[70]?.getD undef = (.bool true) := hdep 0 (by decide) 70 rfl
                      exact plan_do (by rfl) (plan_yield (i := 1) (V := fun _ _ v => v = (.bool false : Value)) (.bool false) (by go_simp) rfl hK)
                    · intro a w' K hs' hdep hfr hK
                      have e71 : a.tmps[71]?.getD undef = (.bool false) := hdep 1 (by decide) 71 rfl
                      exact plan_do (by rfl) (plan_yield (i := 2) (V := fun _ _ v => v = (.bool false : Value)) (.bool false) (by go_simp) rfl hK)
                    · intro a w' K hs' hdep hfr hK
                      have e72 : a.tmps[72]?.getD undef = (.bool false) := hdep 2 (by decide) 72 rfl
                      have f0 := hfr 0 (by decide)
                      exact plan_do (wanted_of 2 72 false rfl rfl e72) (plan_yield (i := 3) (V := fun _ _ v => v = (.slice (some ⟨g, off, none⟩) n c : Value)) (.slice (some ⟨g, off, none⟩) n c) (by go_simp) rfl hK)
                    · intro a w' K hs' hdep hfr hK
                      have e72 : a.tmps[72]?.getD undef = (.bool false) := hdep 2 (by decide) 72 rfl
                      have f13 := hfr 13 (by decide)
                      exact plan_do (wanted_of 2 72 false rfl rfl e72) (plan_yield (i := 4) (V := fun _ _ v => v = (.int .i64 (j : Int) : Value)) (.int .i64 (j : Int)) (by go_simp) rfl hK)
                    · intro a w' K hs' hdep hfr hK
                      have e73 : a.tmps[73]?.getD undef = (.slice (some ⟨g, off, none⟩) n c) := hdep 3 (by decide) 73 rfl
                      have e74 : a.tmps[74]?.getD undef = (.int .i64 (j : Int)) := hdep 4 (by decide) 74 rfl
                      have e72 : a.tmps[72]?.getD undef = (.bool false) := hdep 2 (by decide) 72 rfl
                      have hin : (j : Int) < (n : Int) := by omega
                      exact plan_do (wanted_of 2 72 false rfl rfl e72) (plan_yield (i := 5) (V := fun _ _ v => v = (.pointer (some ⟨g, off + j * 37, none⟩) : Value)) (.pointer (some ⟨g, off + j * 37, none⟩)) (by go_simp) rfl hK)
                    · intro a w' K hs' hdep hfr hK
                      have e75 : a.tmps[75]?.getD undef = (.pointer (some ⟨g, off + j * 37, none⟩)) := hdep 5 (by decide) 75 rfl
                      have e72 : a.tmps[72]?.getD undef = (.bool false) := hdep 2 (by decide) 72 rfl
                      exact plan_do (wanted_of 2 72 false rfl rfl e72) (wp_load_mid (P := Try.prog) 31 (.tmp 75) rfl g (off + j * 37) ((eval_tmp _ _).trans e75) v.cells _ (range_sameV HRA2.out hs') Try.underlying31 rfl HSL.out (hK _ _ (Keeps.refl _ _) rfl))
                    · intro a w' K hs' hdep hfr hK
                      have e72 : a.tmps[72]?.getD undef = (.bool false) := hdep 2 (by decide) 72 rfl
                      have f11 := hfr 11 (by decide)
                      exact plan_do (wanted_of 2 72 false rfl rfl e72) (wp_load_row (P := Try.prog) 31 (.tmp 11) rfl B ((eval_tmp _ _).trans f11) 31 rw0.cells.toArray (0, 0) _ (HB2.out.keep hs' (fun e => e)) Try.underlying31 rfl (size_vote _ HRH.out) (hK _ _ (Keeps.refl _ _) rfl))
                    · intro a w' K hs' hdep hfr hK
                      have e76 : a.tmps[76]?.getD undef = (.agg v.cells.toArray) := hdep 6 (by decide) 76 rfl
                      have e77 : a.tmps[77]?.getD undef = (.agg rw0.cells.toArray) := hdep 7 (by decide) 77 rfl
                      have e72 : a.tmps[72]?.getD undef = (.bool false) := hdep 2 (by decide) 72 rfl
                      refine plan_do (wanted_of 2 72 false rfl rfl e72) (plan_call 23 #[.agg v.cells.toArray, .agg rw0.cells.toArray] (by go_simp) ?_)
                      exact (above_any v rw0 w' HVO.out.head HRH.out).mono fun e w'' ⟨he, hk⟩ => ⟨_, by rw [HAB.out] at he; exact he, hK _ _ hk rfl⟩
                    · intro a w' K hs' hdep hfr hK
                      have e72 : a.tmps[72]?.getD undef = (.bool false) := hdep 2 (by decide) 72 rfl
                      have e78 : a.tmps[78]?.getD undef = (.bool false) := hdep 8 (by decide) 78 rfl
                      exact plan_do (by rfl) (plan_yield (i := 9) (V := fun _ _ v => v = (.bool false : Value)) (.bool false) (by go_simp) rfl hK)
                  intro a wz hkz hdef hsz hv hfr
                  have e79 : a.tmps[79]?.getD undef = (.bool false) := hv 9 79 rfl
                  have he := act_eq a _ [some 70, some 71, some 72, some 73, some 74, some 75, some 76, some 77, some 78, some 79] 91 rfl hsz hdef hfr (fun d => a.tmps[d]?.getD undef) (fun _ _ => rfl)
                  obtain ⟨v70, h70⟩ : ∃ v, a.tmps[70]?.getD undef = v := ⟨_, rfl⟩
                  obtain ⟨v71, h71⟩ : ∃ v, a.tmps[71]?.getD undef = v := ⟨_, rfl⟩
                  obtain ⟨v72, h72⟩ : ∃ v, a.tmps[72]?.getD undef = v := ⟨_, rfl⟩
                  obtain ⟨v73, h73⟩ : ∃ v, a.tmps[73]?.getD undef = v := ⟨_, rfl⟩
                  obtain ⟨v74, h74⟩ : ∃ v, a.tmps[74]?.getD undef = v := ⟨_, rfl⟩
                  obtain ⟨v75, h75⟩ : ∃ v, a.tmps[75]?.getD undef = v := ⟨_, rfl⟩
                  obtain ⟨v76, h76⟩ : ∃ v, a.tmps[76]?.getD undef = v := ⟨_, rfl⟩
                  obtain ⟨v77, h77⟩ : ∃ v, a.tmps[77]?.getD undef = v := ⟨_, rfl⟩
                  obtain ⟨v78, h78⟩ : ∃ v, a.tmps[78]?.getD undef = v := ⟨_, rfl⟩
                  simp only [putAll, e79, h70, h71, h72, h73, h74, h75, h76, h77, h78, List.setIfInBounds_toArray, List.set_cons_zero, List.set_cons_succ] at he
                  clear e79 h70 h71 h72 h73 h74 h75 h76 h77 h78 hdef hsz hv hfr
                  subst he
                  have HKZ := Lib.hid hkz
                  clear hkz
                  go_wp2
                  go_roundw
                  case rel => exact ⟨j + 1, by omega, by go_num, by rw [HCT.out], by rw [HCMT.out], by rw [HAN.out.1], by rw [HAN.out.2]; exact HB2.out.keep HKZ.out (fun e => e), HK2.out.trans HKZ.out (fun _ _ e => e.elim)⟩
                  case measure => simp [intOf]; omega
            · have HCQ := Lib.hid hcq
              cases hbest : s.best with
              | none =>
                rw [hbest] at HSTP
                have HSTEP := Lib.hid (HSTP.out v rfl)
                have hsom : (Option.isSome (none : Option VoteX)) = false := rfl
                rw [hsom]
                clear hbest hsom
                have HCT : Hid (((csOf view (vs.take (j + 1))).nodes.length : Int) = (l.length : Int) + 1) := Lib.hid (by rw [HTK.out, HSTEP.out]; simp only [if_neg HMEM.out]; simp)
                have HCMT : Hid ((csOf view (vs.take (j + 1))).commit = cm) := Lib.hid (by rw [HTK.out, HSTEP.out]; simp only [if_neg HCQ.out])
                have HAN : Hid ((csOf view (vs.take (j + 1))).best.isSome = true ∧ (csOf view (vs.take (j + 1))).row = v) := Lib.hid (by rw [HTK.out, HSTEP.out]; exact ⟨rfl, rfl⟩)
                go_wp2
                refine wp_region_do [[], [0], [1], [2], [2], [3, 4, 2], [5, 2], [2], [6, 7, 2, 2], [2, 8]]
                  [some 70, some 71, some 72, some 73, some 74, some 75, some 76, some 77, some 78, some 79]
                  [.is (.bool false), .is (.bool true), .is (.bool true), .any, .any, .any, .any, .any, .any, .is (.bool true)]
                  16 _ _ 91 10 (by kernel_rfl) (by rfl) (by rfl) (by kernel_rfl) (by kernel_rfl) (by decide) ?_ ?_
                · refine ⟨?_, ?_, ?_, ?_, ?_, ?_, ?_, ?_, ?_, ?_, trivial⟩
                  · intro a w' K hs' hdep hfr hK
                    have f12 := hfr 12 (by decide)
                    exact plan_do (by rfl) (plan_yield (i := 0) (V := fun _ _ v => v = (.bool false : Value)) (.bool false) (by go_simp) rfl hK)
                  · intro a w' K hs' hdep hfr hK
                    have e70 : a.tmps[70]?.getD undef = (.bool false) := hdep 0 (by decide) 70 rfl
                    exact plan_do (by rfl) (plan_yield (i := 1) (V := fun _ _ v => v = (.bool true : Value)) (.bool true) (by go_simp) rfl hK)
                  · intro a w' K hs' hdep hfr hK
                    have e71 : a.tmps[71]?.getD undef = (.bool true) := hdep 1 (by decide) 71 rfl
                    exact plan_do (by rfl) (plan_yield (i := 2) (V := fun _ _ v => v = (.bool true : Value)) (.bool true) (by go_simp) rfl hK)
                  · intro a w' K hs' hdep hfr hK
                    have e72 : a.tmps[72]?.getD undef = (.bool true) := hdep 2 (by decide) 72 rfl
                    have f0 := hfr 0 (by decide)
                    exact plan_skip (unwanted_by 2 72 false rfl rfl e72) (hK _ _ (Keeps.refl _ _) trivial)
                  · intro a w' K hs' hdep hfr hK
                    have e72 : a.tmps[72]?.getD undef = (.bool true) := hdep 2 (by decide) 72 rfl
                    have f13 := hfr 13 (by decide)
                    exact plan_skip (unwanted_by 2 72 false rfl rfl e72) (hK _ _ (Keeps.refl _ _) trivial)
                  · intro a w' K hs' hdep hfr hK
                    have e72 : a.tmps[72]?.getD undef = (.bool true) := hdep 2 (by decide) 72 rfl
                    exact plan_skip (unwanted_by 2 72 false rfl rfl e72) (hK _ _ (Keeps.refl _ _) trivial)
                  · intro a w' K hs' hdep hfr hK
                    have e72 : a.tmps[72]?.getD undef = (.bool true) := hdep 2 (by decide) 72 rfl
                    exact plan_skip (unwanted_by 2 72 false rfl rfl e72) (hK _ _ (Keeps.refl _ _) trivial)
                  · intro a w' K hs' hdep hfr hK
                    have e72 : a.tmps[72]?.getD undef = (.bool true) := hdep 2 (by decide) 72 rfl
                    have f11 := hfr 11 (by decide)
                    exact plan_skip (unwanted_by 2 72 false rfl rfl e72) (hK _ _ (Keeps.refl _ _) trivial)
                  · intro a w' K hs' hdep hfr hK
                    have e72 : a.tmps[72]?.getD undef = (.bool true) := hdep 2 (by decide) 72 rfl
                    exact plan_skip (unwanted_by 2 72 false rfl rfl e72) (hK _ _ (Keeps.refl _ _) trivial)
                  · intro a w' K hs' hdep hfr hK
                    have e72 : a.tmps[72]?.getD undef = (.bool true) := hdep 2 (by decide) 72 rfl
                    exact plan_do (by rfl) (plan_yield (i := 9) (V := fun _ _ v => v = (.bool true : Value)) (.bool true) (by go_simp) rfl hK)
                intro a wz hkz hdef hsz hv hfr
                have e79 : a.tmps[79]?.getD undef = (.bool true) := hv 9 79 rfl
                have he := act_eq a _ [some 70, some 71, some 72, some 73, some 74, some 75, some 76, some 77, some 78, some 79] 91 rfl hsz hdef hfr (fun d => a.tmps[d]?.getD undef) (fun _ _ => rfl)
                obtain ⟨v70, h70⟩ : ∃ v, a.tmps[70]?.getD undef = v := ⟨_, rfl⟩
                obtain ⟨v71, h71⟩ : ∃ v, a.tmps[71]?.getD undef = v := ⟨_, rfl⟩
                obtain ⟨v72, h72⟩ : ∃ v, a.tmps[72]?.getD undef = v := ⟨_, rfl⟩
                obtain ⟨v73, h73⟩ : ∃ v, a.tmps[73]?.getD undef = v := ⟨_, rfl⟩
                obtain ⟨v74, h74⟩ : ∃ v, a.tmps[74]?.getD undef = v := ⟨_, rfl⟩
                obtain ⟨v75, h75⟩ : ∃ v, a.tmps[75]?.getD undef = v := ⟨_, rfl⟩
                obtain ⟨v76, h76⟩ : ∃ v, a.tmps[76]?.getD undef = v := ⟨_, rfl⟩
                obtain ⟨v77, h77⟩ : ∃ v, a.tmps[77]?.getD undef = v := ⟨_, rfl⟩
                obtain ⟨v78, h78⟩ : ∃ v, a.tmps[78]?.getD undef = v := ⟨_, rfl⟩
                simp only [putAll, e79, h70, h71, h72, h73, h74, h75, h76, h77, h78, List.setIfInBounds_toArray, List.set_cons_zero, List.set_cons_succ] at he
                clear e79 h70 h71 h72 h73 h74 h75 h76 h77 h78 hdef hsz hv hfr
                subst he
                have HKZ := Lib.hid hkz
                clear hkz
                obtain ⟨w9, hw9⟩ : ∃ w9, wz.setRow B v.cells.toArray = w9 := ⟨_, rfl⟩
                have HBZ := Lib.hid (HB2.out.keep HKZ.out (fun e => e))
                have HRZ := Lib.hid (range_sameV HRA2.out HKZ.out)
                have HQ9 : Hid (Whole w9 B 31 v.cells) := Lib.hid (by rw [← hw9]; exact HBZ.out.row)
                have HK9 : Hid (Keeps (fun q => q = B) w0 w9) := Lib.hid (by rw [← hw9]; exact (HK2.out.trans HKZ.out (fun _ _ e => e.elim)).setRow _ _ (.inr rfl))
                have HW9 := Lib.hid hw9
                clear hw9
                go_wp2_with (first
                  | (refine wpList_load_mid (by rfl) 31 _ (by rfl) g (off + j * 37) (by rfl) v.cells _ HRZ.out Try.underlying31 rfl HSL.out ?_)
                  | (refine wpList_store_row (by rfl) 31 _ _ (by rfl) B v.cells.toArray (by rfl) (by rfl) 31 rw0.cells.toArray HBZ.out HSV.out HSR.out HAL.out ?_; rw [HW9.out]))
                go_roundw
                case rel => exact ⟨j + 1, by omega, by go_num, by rw [HCT.out], by rw [HCMT.out], by rw [HAN.out.1], by rw [HAN.out.2]; exact HQ9.out, HK9.out⟩
                case measure => simp [intOf]; omega
              | some b =>
                obtain rfl := HROW.out b hbest
                rw [hbest] at HSTP
                obtain ⟨rw0, hrw0⟩ : ∃ r, b = r := ⟨_, rfl⟩
                have hsom : (Option.isSome (some b)) = true := rfl
                rw [hsom]
                rw [hrw0] at HSTP HB2 HRH HSR
                clear hbest hsom hrw0
                by_cases hab : above v rw0 = true
                · have HSTEP := Lib.hid (HSTP.out v (by rw [CS.up, if_pos hab]))
                  have HAB := Lib.hid hab
                  clear hab
                  have HCT : Hid (((csOf view (vs.take (j + 1))).nodes.length : Int) = (l.length : Int) + 1) := Lib.hid (by rw [HTK.out, HSTEP.out]; simp only [if_neg HMEM.out]; simp)
                  have HCMT : Hid ((csOf view (vs.take (j + 1))).commit = cm) := Lib.hid (by rw [HTK.out, HSTEP.out]; simp only [if_neg HCQ.out])
                  have HAN : Hid ((csOf view (vs.take (j + 1))).best.isSome = true ∧ (csOf view (vs.take (j + 1))).row = v) := Lib.hid (by rw [HTK.out, HSTEP.out]; exact ⟨rfl, rfl⟩)
                  go_wp2
                  refine wp_region_do [[], [0], [1], [2], [2], [3, 4, 2], [5, 2], [2], [6, 7, 2, 2], [2, 8]]
                    [some 70, some 71, some 72, some 73, some 74, some 75, some 76, some 77, some 78, some 79]
                    [.is (.bool true), .is (.bool false), .is (.bool false), .is (.slice (some ⟨g, off, none⟩) n c), .is (.int .i64 (j : Int)), .is (.pointer (some ⟨g, off + j * 37, none⟩)), .is (.agg v.cells.toArray), .is (.agg rw0.cells.toArray), .is (.bool true), .is (.bool true)]
                    16 _ _ 91 10 (by kernel_rfl) (by rfl) (by rfl) (by kernel_rfl) (by kernel_rfl) (by decide) ?_ ?_
                  · refine ⟨?_, ?_, ?_, ?_, ?_, ?_, ?_, ?_, ?_, ?_, trivial⟩
                    · intro a w' K hs' hdep hfr hK
                      have f12 := hfr 12 (by decide)
                      exact plan_do (by rfl) (plan_yield (i := 0) (V := fun _ _ v => v = (.bool true : Value)) (.bool true) (by go_simp) rfl hK)
                    · intro a w' K hs' hdep hfr hK
                      have e70 : a.tmps[70]?.getD undef = (.bool true) := hdep 0 (by decide) 70 rfl
                      exact plan_do (by rfl) (plan_yield (i := 1) (V := fun _ _ v => v = (.bool false : Value)) (.bool false) (by go_simp) rfl hK)
                    · intro a w' K hs' hdep hfr hK
                      have e71 : a.tmps[71]?.getD undef = (.bool false) := hdep 1 (by decide) 71 rfl
                      exact plan_do (by rfl) (plan_yield (i := 2) (V := fun _ _ v => v = (.bool false : Value)) (.bool false) (by go_simp) rfl hK)
                    · intro a w' K hs' hdep hfr hK
                      have e72 : a.tmps[72]?.getD undef = (.bool false) := hdep 2 (by decide) 72 rfl
                      have f0 := hfr 0 (by decide)
                      exact plan_do (wanted_of 2 72 false rfl rfl e72) (plan_yield (i := 3) (V := fun _ _ v => v = (.slice (some ⟨g, off, none⟩) n c : Value)) (.slice (some ⟨g, off, none⟩) n c) (by go_simp) rfl hK)
                    · intro a w' K hs' hdep hfr hK
                      have e72 : a.tmps[72]?.getD undef = (.bool false) := hdep 2 (by decide) 72 rfl
                      have f13 := hfr 13 (by decide)
                      exact plan_do (wanted_of 2 72 false rfl rfl e72) (plan_yield (i := 4) (V := fun _ _ v => v = (.int .i64 (j : Int) : Value)) (.int .i64 (j : Int)) (by go_simp) rfl hK)
                    · intro a w' K hs' hdep hfr hK
                      have e73 : a.tmps[73]?.getD undef = (.slice (some ⟨g, off, none⟩) n c) := hdep 3 (by decide) 73 rfl
                      have e74 : a.tmps[74]?.getD undef = (.int .i64 (j : Int)) := hdep 4 (by decide) 74 rfl
                      have e72 : a.tmps[72]?.getD undef = (.bool false) := hdep 2 (by decide) 72 rfl
                      have hin : (j : Int) < (n : Int) := by omega
                      exact plan_do (wanted_of 2 72 false rfl rfl e72) (plan_yield (i := 5) (V := fun _ _ v => v = (.pointer (some ⟨g, off + j * 37, none⟩) : Value)) (.pointer (some ⟨g, off + j * 37, none⟩)) (by go_simp) rfl hK)
                    · intro a w' K hs' hdep hfr hK
                      have e75 : a.tmps[75]?.getD undef = (.pointer (some ⟨g, off + j * 37, none⟩)) := hdep 5 (by decide) 75 rfl
                      have e72 : a.tmps[72]?.getD undef = (.bool false) := hdep 2 (by decide) 72 rfl
                      exact plan_do (wanted_of 2 72 false rfl rfl e72) (wp_load_mid (P := Try.prog) 31 (.tmp 75) rfl g (off + j * 37) ((eval_tmp _ _).trans e75) v.cells _ (range_sameV HRA2.out hs') Try.underlying31 rfl HSL.out (hK _ _ (Keeps.refl _ _) rfl))
                    · intro a w' K hs' hdep hfr hK
                      have e72 : a.tmps[72]?.getD undef = (.bool false) := hdep 2 (by decide) 72 rfl
                      have f11 := hfr 11 (by decide)
                      exact plan_do (wanted_of 2 72 false rfl rfl e72) (wp_load_row (P := Try.prog) 31 (.tmp 11) rfl B ((eval_tmp _ _).trans f11) 31 rw0.cells.toArray (0, 0) _ (HB2.out.keep hs' (fun e => e)) Try.underlying31 rfl (size_vote _ HRH.out) (hK _ _ (Keeps.refl _ _) rfl))
                    · intro a w' K hs' hdep hfr hK
                      have e76 : a.tmps[76]?.getD undef = (.agg v.cells.toArray) := hdep 6 (by decide) 76 rfl
                      have e77 : a.tmps[77]?.getD undef = (.agg rw0.cells.toArray) := hdep 7 (by decide) 77 rfl
                      have e72 : a.tmps[72]?.getD undef = (.bool false) := hdep 2 (by decide) 72 rfl
                      refine plan_do (wanted_of 2 72 false rfl rfl e72) (plan_call 23 #[.agg v.cells.toArray, .agg rw0.cells.toArray] (by go_simp) ?_)
                      exact (above_any v rw0 w' HVO.out.head HRH.out).mono fun e w'' ⟨he, hk⟩ => ⟨_, by rw [HAB.out] at he; exact he, hK _ _ hk rfl⟩
                    · intro a w' K hs' hdep hfr hK
                      have e72 : a.tmps[72]?.getD undef = (.bool false) := hdep 2 (by decide) 72 rfl
                      have e78 : a.tmps[78]?.getD undef = (.bool true) := hdep 8 (by decide) 78 rfl
                      exact plan_do (by rfl) (plan_yield (i := 9) (V := fun _ _ v => v = (.bool true : Value)) (.bool true) (by go_simp) rfl hK)
                  intro a wz hkz hdef hsz hv hfr
                  have e79 : a.tmps[79]?.getD undef = (.bool true) := hv 9 79 rfl
                  have he := act_eq a _ [some 70, some 71, some 72, some 73, some 74, some 75, some 76, some 77, some 78, some 79] 91 rfl hsz hdef hfr (fun d => a.tmps[d]?.getD undef) (fun _ _ => rfl)
                  obtain ⟨v70, h70⟩ : ∃ v, a.tmps[70]?.getD undef = v := ⟨_, rfl⟩
                  obtain ⟨v71, h71⟩ : ∃ v, a.tmps[71]?.getD undef = v := ⟨_, rfl⟩
                  obtain ⟨v72, h72⟩ : ∃ v, a.tmps[72]?.getD undef = v := ⟨_, rfl⟩
                  obtain ⟨v73, h73⟩ : ∃ v, a.tmps[73]?.getD undef = v := ⟨_, rfl⟩
                  obtain ⟨v74, h74⟩ : ∃ v, a.tmps[74]?.getD undef = v := ⟨_, rfl⟩
                  obtain ⟨v75, h75⟩ : ∃ v, a.tmps[75]?.getD undef = v := ⟨_, rfl⟩
                  obtain ⟨v76, h76⟩ : ∃ v, a.tmps[76]?.getD undef = v := ⟨_, rfl⟩
                  obtain ⟨v77, h77⟩ : ∃ v, a.tmps[77]?.getD undef = v := ⟨_, rfl⟩
                  obtain ⟨v78, h78⟩ : ∃ v, a.tmps[78]?.getD undef = v := ⟨_, rfl⟩
                  simp only [putAll, e79, h70, h71, h72, h73, h74, h75, h76, h77, h78, List.setIfInBounds_toArray, List.set_cons_zero, List.set_cons_succ] at he
                  clear e79 h70 h71 h72 h73 h74 h75 h76 h77 h78 hdef hsz hv hfr
                  subst he
                  have HKZ := Lib.hid hkz
                  clear hkz
                  obtain ⟨w9, hw9⟩ : ∃ w9, wz.setRow B v.cells.toArray = w9 := ⟨_, rfl⟩
                  have HBZ := Lib.hid (HB2.out.keep HKZ.out (fun e => e))
                  have HRZ := Lib.hid (range_sameV HRA2.out HKZ.out)
                  have HQ9 : Hid (Whole w9 B 31 v.cells) := Lib.hid (by rw [← hw9]; exact HBZ.out.row)
                  have HK9 : Hid (Keeps (fun q => q = B) w0 w9) := Lib.hid (by rw [← hw9]; exact (HK2.out.trans HKZ.out (fun _ _ e => e.elim)).setRow _ _ (.inr rfl))
                  have HW9 := Lib.hid hw9
                  clear hw9
                  go_wp2_with (first
                    | (refine wpList_load_mid (by rfl) 31 _ (by rfl) g (off + j * 37) (by rfl) v.cells _ HRZ.out Try.underlying31 rfl HSL.out ?_)
                    | (refine wpList_store_row (by rfl) 31 _ _ (by rfl) B v.cells.toArray (by rfl) (by rfl) 31 rw0.cells.toArray HBZ.out HSV.out HSR.out HAL.out ?_; rw [HW9.out]))
                  go_roundw
                  case rel => exact ⟨j + 1, by omega, by go_num, by rw [HCT.out], by rw [HCMT.out], by rw [HAN.out.1], by rw [HAN.out.2]; exact HQ9.out, HK9.out⟩
                  case measure => simp [intOf]; omega
                · have HSTEP := Lib.hid (HSTP.out rw0 (by rw [CS.up, if_neg hab]))
                  have HAB := Lib.hid (Bool.eq_false_iff.2 hab)
                  clear hab
                  have HCT : Hid (((csOf view (vs.take (j + 1))).nodes.length : Int) = (l.length : Int) + 1) := Lib.hid (by rw [HTK.out, HSTEP.out]; simp only [if_neg HMEM.out]; simp)
                  have HCMT : Hid ((csOf view (vs.take (j + 1))).commit = cm) := Lib.hid (by rw [HTK.out, HSTEP.out]; simp only [if_neg HCQ.out])
                  have HAN : Hid ((csOf view (vs.take (j + 1))).best.isSome = true ∧ (csOf view (vs.take (j + 1))).row = rw0) := Lib.hid (by rw [HTK.out, HSTEP.out]; exact ⟨rfl, rfl⟩)
                  go_wp2
                  refine wp_region_do [[], [0], [1], [2], [2], [3, 4, 2], [5, 2], [2], [6, 7, 2, 2], [2, 8]]
                    [some 70, some 71, some 72, some 73, some 74, some 75, some 76, some 77, some 78, some 79]
                    [.is (.bool true), .is (.bool false), .is (.bool false), .is (.slice (some ⟨g, off, none⟩) n c), .is (.int .i64 (j : Int)), .is (.pointer (some ⟨g, off + j * 37, none⟩)), .is (.agg v.cells.toArray), .is (.agg rw0.cells.toArray), .is (.bool false), .is (.bool false)]
                    16 _ _ 91 10 (by kernel_rfl) (by rfl) (by rfl) (by kernel_rfl) (by kernel_rfl) (by decide) ?_ ?_
                  · refine ⟨?_, ?_, ?_, ?_, ?_, ?_, ?_, ?_, ?_, ?_, trivial⟩
                    · intro a w' K hs' hdep hfr hK
                      have f12 := hfr 12 (by decide)
                      exact plan_do (by rfl) (plan_yield (i := 0) (V := fun _ _ v => v = (.bool true : Value)) (.bool true) (by go_simp) rfl hK)
                    · intro a w' K hs' hdep hfr hK
                      have e70 : a.tmps[70]?.getD undef = (.bool true) := hdep 0 (by decide) 70 rfl
                      exact plan_do (by rfl) (plan_yield (i := 1) (V := fun _ _ v => v = (.bool false : Value)) (.bool false) (by go_simp) rfl hK)
                    · intro a w' K hs' hdep hfr hK
                      have e71 : a.tmps[71]?.getD undef = (.bool false) := hdep 1 (by decide) 71 rfl
                      exact plan_do (by rfl) (plan_yield (i := 2) (V := fun _ _ v => v = (.bool false : Value)) (.bool false) (by go_simp) rfl hK)
                    · intro a w' K hs' hdep hfr hK
                      have e72 : a.tmps[72]?.getD undef = (.bool false) := hdep 2 (by decide) 72 rfl
                      have f0 := hfr 0 (by decide)
                      exact plan_do (wanted_of 2 72 false rfl rfl e72) (plan_yield (i := 3) (V := fun _ _ v => v = (.slice (some ⟨g, off, none⟩) n c : Value)) (.slice (some ⟨g, off, none⟩) n c) (by go_simp) rfl hK)
                    · intro a w' K hs' hdep hfr hK
                      have e72 : a.tmps[72]?.getD undef = (.bool false) := hdep 2 (by decide) 72 rfl
                      have f13 := hfr 13 (by decide)
                      exact plan_do (wanted_of 2 72 false rfl rfl e72) (plan_yield (i := 4) (V := fun _ _ v => v = (.int .i64 (j : Int) : Value)) (.int .i64 (j : Int)) (by go_simp) rfl hK)
                    · intro a w' K hs' hdep hfr hK
                      have e73 : a.tmps[73]?.getD undef = (.slice (some ⟨g, off, none⟩) n c) := hdep 3 (by decide) 73 rfl
                      have e74 : a.tmps[74]?.getD undef = (.int .i64 (j : Int)) := hdep 4 (by decide) 74 rfl
                      have e72 : a.tmps[72]?.getD undef = (.bool false) := hdep 2 (by decide) 72 rfl
                      have hin : (j : Int) < (n : Int) := by omega
                      exact plan_do (wanted_of 2 72 false rfl rfl e72) (plan_yield (i := 5) (V := fun _ _ v => v = (.pointer (some ⟨g, off + j * 37, none⟩) : Value)) (.pointer (some ⟨g, off + j * 37, none⟩)) (by go_simp) rfl hK)
                    · intro a w' K hs' hdep hfr hK
                      have e75 : a.tmps[75]?.getD undef = (.pointer (some ⟨g, off + j * 37, none⟩)) := hdep 5 (by decide) 75 rfl
                      have e72 : a.tmps[72]?.getD undef = (.bool false) := hdep 2 (by decide) 72 rfl
                      exact plan_do (wanted_of 2 72 false rfl rfl e72) (wp_load_mid (P := Try.prog) 31 (.tmp 75) rfl g (off + j * 37) ((eval_tmp _ _).trans e75) v.cells _ (range_sameV HRA2.out hs') Try.underlying31 rfl HSL.out (hK _ _ (Keeps.refl _ _) rfl))
                    · intro a w' K hs' hdep hfr hK
                      have e72 : a.tmps[72]?.getD undef = (.bool false) := hdep 2 (by decide) 72 rfl
                      have f11 := hfr 11 (by decide)
                      exact plan_do (wanted_of 2 72 false rfl rfl e72) (wp_load_row (P := Try.prog) 31 (.tmp 11) rfl B ((eval_tmp _ _).trans f11) 31 rw0.cells.toArray (0, 0) _ (HB2.out.keep hs' (fun e => e)) Try.underlying31 rfl (size_vote _ HRH.out) (hK _ _ (Keeps.refl _ _) rfl))
                    · intro a w' K hs' hdep hfr hK
                      have e76 : a.tmps[76]?.getD undef = (.agg v.cells.toArray) := hdep 6 (by decide) 76 rfl
                      have e77 : a.tmps[77]?.getD undef = (.agg rw0.cells.toArray) := hdep 7 (by decide) 77 rfl
                      have e72 : a.tmps[72]?.getD undef = (.bool false) := hdep 2 (by decide) 72 rfl
                      refine plan_do (wanted_of 2 72 false rfl rfl e72) (plan_call 23 #[.agg v.cells.toArray, .agg rw0.cells.toArray] (by go_simp) ?_)
                      exact (above_any v rw0 w' HVO.out.head HRH.out).mono fun e w'' ⟨he, hk⟩ => ⟨_, by rw [HAB.out] at he; exact he, hK _ _ hk rfl⟩
                    · intro a w' K hs' hdep hfr hK
                      have e72 : a.tmps[72]?.getD undef = (.bool false) := hdep 2 (by decide) 72 rfl
                      have e78 : a.tmps[78]?.getD undef = (.bool false) := hdep 8 (by decide) 78 rfl
                      exact plan_do (by rfl) (plan_yield (i := 9) (V := fun _ _ v => v = (.bool false : Value)) (.bool false) (by go_simp) rfl hK)
                  intro a wz hkz hdef hsz hv hfr
                  have e79 : a.tmps[79]?.getD undef = (.bool false) := hv 9 79 rfl
                  have he := act_eq a _ [some 70, some 71, some 72, some 73, some 74, some 75, some 76, some 77, some 78, some 79] 91 rfl hsz hdef hfr (fun d => a.tmps[d]?.getD undef) (fun _ _ => rfl)
                  obtain ⟨v70, h70⟩ : ∃ v, a.tmps[70]?.getD undef = v := ⟨_, rfl⟩
                  obtain ⟨v71, h71⟩ : ∃ v, a.tmps[71]?.getD undef = v := ⟨_, rfl⟩
                  obtain ⟨v72, h72⟩ : ∃ v, a.tmps[72]?.getD undef = v := ⟨_, rfl⟩
                  obtain ⟨v73, h73⟩ : ∃ v, a.tmps[73]?.getD undef = v := ⟨_, rfl⟩
                  obtain ⟨v74, h74⟩ : ∃ v, a.tmps[74]?.getD undef = v := ⟨_, rfl⟩
                  obtain ⟨v75, h75⟩ : ∃ v, a.tmps[75]?.getD undef = v := ⟨_, rfl⟩
                  obtain ⟨v76, h76⟩ : ∃ v, a.tmps[76]?.getD undef = v := ⟨_, rfl⟩
                  obtain ⟨v77, h77⟩ : ∃ v, a.tmps[77]?.getD undef = v := ⟨_, rfl⟩
                  obtain ⟨v78, h78⟩ : ∃ v, a.tmps[78]?.getD undef = v := ⟨_, rfl⟩
                  simp only [putAll, e79, h70, h71, h72, h73, h74, h75, h76, h77, h78, List.setIfInBounds_toArray, List.set_cons_zero, List.set_cons_succ] at he
                  clear e79 h70 h71 h72 h73 h74 h75 h76 h77 h78 hdef hsz hv hfr
                  subst he
                  have HKZ := Lib.hid hkz
                  clear hkz
                  go_wp2
                  go_roundw
                  case rel => exact ⟨j + 1, by omega, by go_num, by rw [HCT.out], by rw [HCMT.out], by rw [HAN.out.1], by rw [HAN.out.2]; exact HB2.out.keep HKZ.out (fun e => e), HK2.out.trans HKZ.out (fun _ _ e => e.elim)⟩
                  case measure => simp [intOf]; omega
    · obtain rfl : j = n := by omega
      have hjn : ¬ (j : Int) < (j : Int) := by omega
      have HFULL : Hid (csOf view vs = s) := Lib.hid (by rw [← HSJ.out, List.take_of_length_le (by rw [HN.out]; exact Nat.le_refl _)])
      obtain ⟨l, hln⟩ : ∃ l, s.nodes = l := ⟨_, rfl⟩
      obtain ⟨rw0, hrw⟩ : ∃ r, s.row = r := ⟨_, rfl⟩
      obtain ⟨cm, hcm⟩ : ∃ x, s.commit = x := ⟨_, rfl⟩
      have HRH : Hid (rw0.head.length = 32) := Lib.hid (by rw [← hrw]; exact CS.row_head HG.out)
      have HRR : Hid (Whole wo w.heap.size 31 vote0.cells) := Lib.hid (HR0.out.keep HK1.out (fun e => by have := HMB.out; omega))
      have HCH : Hid (chOf view nodes vs = if (l.length : Int) < maj nodes then (vote0, 0, false) else (rw0, cm, true)) := Lib.hid (by unfold chOf; rw [HFULL.out, hln, hrw, hcm])
      rw [hrw] at HB1
      rw [hln, hcm]
      clear hln hrw hcm
      go_wp2_with fail
      ((with_reducible refine (refMajority_any nodes wo hnod).mono ?_); rintro e w2 ⟨rfl, rfl⟩)
      obtain ⟨m, hm⟩ : ∃ m, maj nodes = m := ⟨_, rfl⟩
      rw [hm] at HCH ⊢
      clear hm
      by_cases hq : (l.length : Int) < m
      · have HC2 : Hid (chOf view nodes vs = (vote0, 0, false)) := Lib.hid (by rw [HCH.out, if_pos hq])
        have HEND : Hid (Same w (w2.setRow w.heap.size vote0.cells.toArray) ∧ Whole (w2.setRow w.heap.size vote0.cells.toArray) w.heap.size 31 vote0.cells) := Lib.hid ⟨HSW.out.setRow _ _ (.inl (Nat.le_refl _)), HRR.out.row⟩
        go_wp2_with (first
          | (refine wpList_buildTo (by rfl) 31 _ (by rfl) _ (by rfl) vote0.cells.toArray (by kernel_rfl) ?_)
          | (refine wpList_store_row (by rfl) 31 _ _ (by rfl) w.heap.size vote0.cells.toArray (by rfl) (by rfl) 31 vote0.cells.toArray HRR.out (size_vote _ vote0_head) rfl (vote_all _) ?_))
        refine bodyPost_ret (v := .tuple #[.agg vote0.cells.toArray, .int .u64 0, .bool false]) (results_row_tmp2 (p := 6) (u := 7) (v := 8) (ty := 31) rfl _ _ w.heap.size 31 _ (0, 0) _ (by rfl) HEND.out.2 Try.underlying31 rfl (size_vote _ vote0_head)) rfl
          ⟨HEND.out.1, by rw [HC2.out]⟩
      · have HC2 : Hid (chOf view nodes vs = (rw0, cm, true)) := Lib.hid (by rw [HCH.out, if_neg hq])
        have HEND : Hid (Same w (w2.setRow w.heap.size rw0.cells.toArray) ∧ Whole (w2.setRow w.heap.size rw0.cells.toArray) w.heap.size 31 rw0.cells) := Lib.hid ⟨HSW.out.setRow _ _ (.inl (Nat.le_refl _)), HRR.out.row⟩
        go_wp2_with (first
          | (refine wpList_load_row_w (by rfl) 31 (.tmp 11) (by rfl) B (by rfl) 31 rw0.cells.toArray (0, 0) _ HB1.out Try.underlying31 rfl (size_vote _ HRH.out) ?_)
          | (refine wpList_store_row (by rfl) 31 _ _ (by rfl) w.heap.size rw0.cells.toArray (by rfl) (by rfl) 31 vote0.cells.toArray HRR.out (size_vote _ HRH.out) (size_two _ _ vote0_head HRH.out) (vote_all _) ?_))
        refine bodyPost_ret (v := .tuple #[.agg rw0.cells.toArray, .int .u64 cm, .bool true]) (results_row_tmp2 (p := 6) (u := 7) (v := 8) (ty := 31) rfl _ _ w.heap.size 31 _ (0, 0) _ (by rfl) HEND.out.2 Try.underlying31 rfl (size_vote _ HRH.out)) rfl
          ⟨HEND.out.1, by rw [HC2.out]⟩
end Go.Proofs.Yteidjpnmfmcfkaa
