/- The walk of VoteLatest. -/
import Derived.Test.YteidjpnmfmcfkaaVAdds
import Derived.Test.YteidjpnmfmcfkaaSk
namespace Go.Proofs.Yteidjpnmfmcfkaa
open Go.ChangeShapes Go.WideShapes Go.ChangeAt Go.RowKit Go.Deep
set_option linter.unusedVariables false

def allOf (vs : List VoteX) : List VoteX := vs.foldl addOf []
theorem allOf_snoc (vs : List VoteX) (v : VoteX) : allOf (vs ++ [v]) = addOf (allOf vs) v := by unfold allOf; rw [List.foldl_append]; rfl
theorem fold_rise : ∀ (vs acc : List VoteX), RiseK VoteX.node acc → RiseK VoteX.node (vs.foldl addOf acc)
  | [], acc, h => h
  | v :: r, acc, h => by
    rw [List.foldl_cons]
    refine fold_rise r _ ?_
    rw [addOf_ins _ _ h]
    exact insK_rise VoteX.node mgV mgV_node v acc h
theorem fold_ok : ∀ (vs acc : List VoteX), (∀ x ∈ vs, x.ok) → (∀ x ∈ acc, x.ok) → ∀ x ∈ vs.foldl addOf acc, x.ok
  | [], acc, _, h => h
  | v :: r, acc, hv, h => fold_ok r _ (fun x hx => hv x (by simp [hx])) (addOf_ok acc v h (hv v (by simp)))
theorem fold_len : ∀ (vs acc : List VoteX), (vs.foldl addOf acc).length ≤ acc.length + vs.length
  | [], acc => by simp
  | v :: r, acc => by
    rw [List.foldl_cons]
    have h1 := fold_len r (addOf acc v)
    have h2 := addOf_len acc v
    simp only [List.length_cons]; omega
theorem same_two {w w' : World} {X : Nat} {y : VoteX} (h : Whole w X 31 y.cells) (k : Same w w') : w'.cell? ⟨X, 0, none⟩ = some (.int .i64 y.node) ∧ w'.cell? ⟨X, 1, none⟩ = some (.int .u64 y.view) := whole_two (h.keep k (fun e => e))
theorem vote_at0 {w : World} {g : Nat} {vs : List VoteX} (h : VotesAt w (some ⟨g, 0, none⟩) vs) {j : Nat} (hj : j < vs.length) : w.rangeAt g (j * 37) vs[j].cells := by
  obtain ⟨g', o', e, hr⟩ := h.at hj
  simp only [Option.some.injEq, Addr.mk.injEq, and_true] at e
  obtain ⟨rfl, rfl⟩ := e
  rwa [Nat.zero_add] at hr
theorem count_step (out : List VoteX) (k : Int) (q : Nat) (x : VoteX) (h : out[q]? = some x) : (out.take (q + 1)).countP (fun y => decide (y.node = k)) = (out.take q).countP (fun y => decide (y.node = k)) + (if x.node = k then 1 else 0) := by
  rw [List.take_add_one, h, List.countP_append]
  simp only [Option.toList_some, List.countP_cons, List.countP_nil, decide_eq_true_eq, Nat.zero_add]

set_option maxRecDepth 100000 in
set_option maxHeartbeats 25600000 in
theorem latest_any (ao : Option Addr) (n c : Nat) (vs : List VoteX) (v : VoteX) (w : World) (h : VotesAt w ao vs) (hok : ∀ v ∈ vs, v.ok) (hv : v.ok) (hn : vs.length = n) :
    Calls Try.prog 7 #[.slice ao n c, .agg v.cells.toArray] w fun e w' => e = .returned (.bool true) ∧ Same w w' := by
  have HV := Lib.hid h
  have HOK := Lib.hid hok
  have HVO := Lib.hid hv
  have HVH := Lib.hid hv.head
  have HN := Lib.hid hn
  have HSVv := Lib.hid (size_vote v hv.head)
  have hzv := Try.zeroVote
  obtain ⟨B, hB⟩ : ∃ B, w.heap.size = B := ⟨_, rfl⟩
  obtain ⟨w1, hw1⟩ : ∃ w1, w.alloc (.cells v.cells.toArray 31) = w1 := ⟨_, rfl⟩
  have HW1 : Hid (Same w w1) := Lib.hid (by rw [← hw1]; exact (Keeps.refl _ _).alloc _)
  have HB1 : Hid (Whole w1 B 31 v.cells) := Lib.hid (by rw [← hw1, ← hB]; exact heap_alloc_new w _)
  have HW := Lib.hid hw1
  have HBB := Lib.hid hB
  clear h hok hv hn hw1 hB
  go_enter Try.func7, Try.ntmps7
  go_wp2_with fail
  rw [HW.out, HBB.out]
  ((with_reducible refine (speaks20 _).mono ?_); rintro e w2 ⟨rfl, hk2⟩)
  have HS2 := Lib.hid (HW1.out.trans hk2 (fun _ _ e => e))
  have HB2 := Lib.hid (HB1.out.keep hk2 (fun e => e))
  clear hk2
  by_cases hbig : (40 : Int) < (n : Int)
  · go_wp2
    go_ret
    exact ⟨rfl, HS2.out⟩
  have hn40 : n ≤ 40 := by omega
  have HOW0 := Lib.hid (own_votes0 w2)
  go_wp2
  go_loopw [5, 24] (fun tv i wr => ∃ j : Nat, j ≤ n ∧ i = .int .i64 j ∧ ∃ g c', tv = .slice (some ⟨g, 0, none⟩) (allOf (vs.take j)).length c' ∧ Hid (VotesAt wr (some ⟨g, 0, none⟩) (allOf (vs.take j))) ∧ Hid (Same w2 wr)) (fun _ i _ => n - (intOf i).toNat)
  case atStart => exact ⟨0, by omega, rfl, _, _, by rfl, Lib.hid (.inl rfl), Lib.hid ((Keeps.refl _ _).alloc _)⟩
  case round =>
    obtain ⟨j, hj, rfl, g, c', rfl, HVA, HS⟩ := hrel
    have HWR := Lib.hid (HS2.out.trans HS.out (fun _ _ e => e))
    have HAO : Hid (∀ x ∈ allOf (vs.take j), x.ok) := Lib.hid (fold_ok _ [] (fun x hx => HOK.out x (List.mem_of_mem_take hx)) (by simp))
    have HAL : Hid ((allOf (vs.take j)).length ≤ 40) := Lib.hid (by have := fold_len (vs.take j) []; simp only [List.length_nil, List.length_take] at this; unfold allOf; omega)
    by_cases hlt : j < n
    · have hjl : j < vs.length := by rw [HN.out]; exact hlt
      obtain ⟨go, off, rfl, hra⟩ := (HV.out.same HWR.out).at hjl
      have HXO : Hid vs[j].ok := Lib.hid (HOK.out _ (List.getElem_mem hjl))
      have HTK : Hid (allOf (vs.take (j + 1)) = addOf (allOf (vs.take j)) vs[j]) := Lib.hid (by rw [List.take_add_one, List.getElem?_eq_getElem hjl]; exact allOf_snoc _ _)
      generalize vs[j] = x at hra HXO HTK
      obtain ⟨al, hal⟩ : ∃ al, allOf (vs.take j) = al := ⟨_, rfl⟩
      rw [hal] at HVA HAO HAL HTK ⊢
      obtain ⟨m, hm⟩ : ∃ m, al.length = m := ⟨_, rfl⟩
      rw [hm] at HAL ⊢
      have HM := Lib.hid hm
      have HRA := Lib.hid hra
      have HXH := Lib.hid HXO.out.head
      have hjn : (j : Int) < (n : Int) := by omega
      have HAL7 := Lib.hid (vote_all x)
      have HSL7 := Lib.hid (size_voteL x HXH.out)
      have HSV7 := Lib.hid (size_vote x HXH.out)
      have HSE7 := Lib.hid (size_two vote0 x vote0_head HXH.out)
      have HNN7 : Hid ((wr.alloc (.cells vote0.cells.toArray 31)).heap[wr.heap.size]? = some (.cells vote0.cells.toArray 31 (0, 0))) := Lib.hid (heap_alloc_new wr _)
      obtain ⟨w7, hw7⟩ : ∃ w', (wr.alloc (.cells vote0.cells.toArray 31)).setRow wr.heap.size x.cells.toArray = w' := ⟨_, rfl⟩
      obtain ⟨X, hX7⟩ : ∃ X, wr.heap.size = X := ⟨_, rfl⟩
      have HKW7 : Hid (Same wr w7) := Lib.hid (by rw [← hw7]; exact ((Keeps.refl _ _).alloc _).setRow _ _ (.inl (Nat.le_refl _)))
      have HWW7 : Hid (Whole w7 X 31 x.cells) := Lib.hid (by rw [← hw7, ← hX7]; exact Whole.row (cs := vote0.cells) (heap_alloc_new wr _))
      have HWX7 := Lib.hid hw7
      have HXB7 := Lib.hid hX7
      clear hw7 hX7
      have HWR7 := Lib.hid (HS.out.trans HKW7.out (fun _ _ e => e))
      have HVA7 := Lib.hid (HVA.out.same HKW7.out)
      clear hra hjl hal hm
      go_wp2_with (first
        | ((with_reducible refine wpList_load_mid ?_ 31 (.tmp 26) ?_ go (off + j * 37) ?_ x.cells _ ?_ Try.underlying31 ?_ ?_ ?_); rfl; rfl; rfl; exact HRA.out; rfl; exact HSL7.out)
        | ((with_reducible refine wpList_store_row ?_ 31 (.tmp 7) (.tmp 27) ?_ wr.heap.size x.cells.toArray ?_ ?_ 31 vote0.cells.toArray ?_ ?_ ?_ ?_ ?_); rfl; rfl; rfl; rfl; exact HNN7.out; exact HSV7.out; exact HSE7.out; exact HAL7.out; rw [HWX7.out, HXB7.out])
        | ((with_reducible refine wpList_load_row_by 31 (.tmp 7) ?_ ?_ X ?_ 31 x.cells.toArray (0, 0) _ ?_ Try.underlying31 ?_ ?_ ?_); rfl; rfl; rfl; exact HWW7.out; rfl; exact HSV7.out))
      ((with_reducible refine (add_any (some ⟨g, 0, none⟩) m c' al x w7 HVA7.out HAO.out HXO.out HM.out (by have := HAL.out; omega) (fun e => by cases e)).mono ?_); rintro e w8 ⟨g8, c8, rfl, hv8, hk8⟩)
      have HV8 : Hid (VotesAt w8 (some ⟨g8, 0, none⟩) (allOf (vs.take (j + 1)))) := Lib.hid (by rw [HTK.out]; exact hv8)
      have HWR8 := Lib.hid (HWR7.out.trans hk8 (fun _ _ e => e))
      rw [← HTK.out]
      clear hv8 hk8
      go_wp2
      go_roundw
      case rel => exact ⟨j + 1, by omega, by go_num, g8, c8, by rfl, HV8, HWR8⟩
      case measure => simp [intOf]; omega
    · obtain rfl : j = n := by omega
      have hnlt : ¬ (j : Int) < (j : Int) := by omega
      have HRI : Hid (RiseK VoteX.node (allOf (vs.take j))) := Lib.hid (fold_rise _ [] List.Pairwise.nil)
      obtain ⟨al, hal⟩ : ∃ al, allOf (vs.take j) = al := ⟨_, rfl⟩
      rw [hal] at HVA HAO HAL HRI ⊢
      obtain ⟨ma, hma⟩ : ∃ m, al.length = m := ⟨_, rfl⟩
      rw [hma] at HAL ⊢
      have HMA := Lib.hid hma
      have HBR := Lib.hid ((HB2.out.keep HS.out (fun e => e)))
      clear hal hma
      go_wp2_with (first
        | ((with_reducible refine wpList_load_row_by 31 (.tmp 3) ?_ ?_ B ?_ 31 v.cells.toArray (0, 0) _ ?_ Try.underlying31 ?_ ?_ ?_); rfl; rfl; rfl; exact HBR.out; rfl; exact HSVv.out))
      ((with_reducible refine (add_any (some ⟨g, 0, none⟩) ma c' al v wr HVA.out HAO.out HVO.out HMA.out (by have := HAL.out; omega) (fun e => by cases e)).mono ?_); rintro e w8 ⟨g8, c8, rfl, hv8, hk8⟩)
      obtain ⟨out, hout⟩ : ∃ out, addOf al v = out := ⟨_, rfl⟩
      rw [hout] at hv8 ⊢
      have hins : insK VoteX.node mgV v al = out := by rw [← addOf_ins _ _ HRI.out, hout]
      have HIN := Lib.hid hins
      have HRO : Hid (RiseK VoteX.node out) := Lib.hid (by rw [← hins]; exact insK_rise VoteX.node mgV mgV_node v al HRI.out)
      have HOO : Hid (∀ x ∈ out, x.ok) := Lib.hid (by rw [← hout]; exact addOf_ok _ _ HAO.out HVO.out)
      have HOL : Hid (out.length ≤ 50) := Lib.hid (by rw [← hout]; have := addOf_len al v; have := HAL.out; have := HMA.out; omega)
      have HV8 := Lib.hid hv8
      have HS8 := Lib.hid (HWR.out.trans hk8 (fun _ _ e => e))
      have HVA8 := Lib.hid (HVA.out.same hk8)
      have HB8 := Lib.hid (HBR.out.keep hk8 (fun e => e))
      obtain ⟨m, hm⟩ : ∃ m, out.length = m := ⟨_, rfl⟩
      rw [hm] at HOL ⊢
      have HM := Lib.hid hm
      have hm50 : m ≤ 50 := HOL.out
      have hma50 : ma ≤ 50 := by have := HAL.out; omega
      clear hv8 hk8 hout hins hm
      go_wp2
      go_loopw [9, 37] (fun fd i wr => ∃ q : Nat, q ≤ m ∧ i = .int .i64 q ∧ fd = .int .i64 ((out.take q).countP (fun y => decide (y.node = v.node)) : Nat) ∧ Hid (Same w8 wr)) (fun _ i _ => m - (intOf i).toNat)
      case atStart => exact ⟨0, by omega, rfl, rfl, Lib.hid (Keeps.refl _ _)⟩
      case round =>
        obtain ⟨q, hq, rfl, rfl, HS⟩ := hrel
        have HCM : Hid ((out.take q).countP (fun y => decide (y.node = v.node)) ≤ q) := Lib.hid (Nat.le_trans List.countP_le_length (List.length_take_le _ _))
        by_cases hlt : q < m
        · have hql : q < out.length := by rw [HM.out]; exact hlt
          have hra := vote_at0 (HV8.out.same HS.out) hql
          have HXO : Hid out[q].ok := Lib.hid (HOO.out _ (List.getElem_mem hql))
          have HCT := Lib.hid (count_step out v.node q out[q] (List.getElem?_eq_getElem hql))
          have HME : Hid (out[q].node = v.node → out[q] = v ∨ ¬ out[q].view ≤ v.view) := Lib.hid (fun e => by
            have h1 := insK_mem VoteX.node mgV v al out[q] HRI.out (by rw [HIN.out]; exact List.getElem_mem hql)
            rcases h1 with h1 | ⟨_, h1⟩ | ⟨z, h1, h2, h3⟩
            · exact .inl h1
            · exact absurd e h1
            · rw [h3]; unfold mgV; split
              · exact .inl rfl
              · exact .inr (by assumption))
          have HPR : Hid (∀ p (hp : p + 1 = q), out[p].node < out[q].node) := Lib.hid (fun p hp => rise_getElem VoteX.node HRO.out p q hql (by omega))
          generalize out[q] = x at hra HXO HCT HME HPR
          generalize (out.take q).countP (fun y => decide (y.node = v.node)) = cnt at HCM HCT ⊢
          have hcm : cnt ≤ 50 := by have := HCM.out; omega
          have HRA := Lib.hid hra
          have HXH := Lib.hid HXO.out.head
          have hjn : (q : Int) < (m : Int) := by omega
          have HAL9 := Lib.hid (vote_all x)
          have HSL9 := Lib.hid (size_voteL x HXH.out)
          have HSV9 := Lib.hid (size_vote x HXH.out)
          have HSE9 := Lib.hid (size_two vote0 x vote0_head HXH.out)
          have HNN9 : Hid ((wr.alloc (.cells vote0.cells.toArray 31)).heap[wr.heap.size]? = some (.cells vote0.cells.toArray 31 (0, 0))) := Lib.hid (heap_alloc_new wr _)
          obtain ⟨w9, hw9⟩ : ∃ w', (wr.alloc (.cells vote0.cells.toArray 31)).setRow wr.heap.size x.cells.toArray = w' := ⟨_, rfl⟩
          obtain ⟨X, hX9⟩ : ∃ X, wr.heap.size = X := ⟨_, rfl⟩
          have HKW9 : Hid (Same wr w9) := Lib.hid (by rw [← hw9]; exact ((Keeps.refl _ _).alloc _).setRow _ _ (.inl (Nat.le_refl _)))
          have HWW9 : Hid (Whole w9 X 31 x.cells) := Lib.hid (by rw [← hw9, ← hX9]; exact Whole.row (cs := vote0.cells) (heap_alloc_new wr _))
          have HWX9 := Lib.hid hw9
          have HXB9 := Lib.hid hX9
          clear hw9 hX9
          have HWR9 := Lib.hid (HS.out.trans HKW9.out (fun _ _ e => e))
          have HV89 := Lib.hid (HV8.out.same HWR9.out)
          have HB9 := Lib.hid (HB8.out.keep HWR9.out (fun e => e))
          have HCX := Lib.hid (fun (w' : World) (k : Same w9 w') => (same_two HWW9.out k).1)
          clear hra
          rcases Nat.eq_zero_or_pos q with h0 | h0
          · subst h0
            clear HPR
            go_wp2_with (first
              | ((with_reducible refine wpList_load_mid ?_ 31 (.tmp 40) ?_ g8 (0 * 37) ?_ x.cells _ ?_ Try.underlying31 ?_ ?_ ?_); rfl; rfl; rfl; exact HRA.out; rfl; exact HSL9.out)
              | ((with_reducible refine wpList_store_row ?_ 31 (.tmp 11) (.tmp 41) ?_ wr.heap.size x.cells.toArray ?_ ?_ 31 vote0.cells.toArray ?_ ?_ ?_ ?_ ?_); rfl; rfl; rfl; rfl; exact HNN9.out; exact HSV9.out; exact HSE9.out; exact HAL9.out; rw [HWX9.out, HXB9.out]))
            refine wp_region_do [[], [0], [1], [2], [2], [4, 2], [3, 5, 2], [6, 2], [7, 2], [2], [9, 2], [8, 10, 2], [2, 11]]
              [some 42, some 43, some 44, some 45, some 46, some 47, some 48, some 49, some 50, some 51, some 52, some 53, some 54]
              [.is (.int .i64 0), .is (.bool false), .is (.bool false), .any, .any, .any, .any, .any, .any, .any, .any, .any, .is (.bool false)]
              16 _ _ 121 13 (by kernel_rfl) (by rfl) (by rfl) (by kernel_rfl) (by kernel_rfl) (by decide) ?_ ?_
            · refine ⟨?_, ?_, ?_, ?_, ?_, ?_, ?_, ?_, ?_, ?_, ?_, ?_, ?_, trivial⟩
              · intro a w' K hs' hdep hfr hK
                have f10 := hfr 10 (by decide)
                exact plan_do (by rfl) (plan_yield (i := 0) (V := fun _ _ v => v = (.int .i64 0 : Value)) (.int .i64 0) (by go_simp) rfl hK)
              · intro a w' K hs' hdep hfr hK
                have e42 : a.tmps[42]?.getD undef = (.int .i64 0) := hdep 0 (by decide) 42 rfl
                exact plan_do (by rfl) (plan_yield (i := 1) (V := fun _ _ v => v = (.bool false : Value)) (.bool false) (by go_simp) rfl hK)
              · intro a w' K hs' hdep hfr hK
                have e43 : a.tmps[43]?.getD undef = (.bool false) := hdep 1 (by decide) 43 rfl
                exact plan_do (by rfl) (plan_yield (i := 2) (V := fun _ _ v => v = (.bool false : Value)) (.bool false) (by go_simp) rfl hK)
              · intro a w' K hs' hdep hfr hK
                have e44 : a.tmps[44]?.getD undef = (.bool false) := hdep 2 (by decide) 44 rfl
                have f8 := hfr 8 (by decide)
                exact plan_skip (unwanted_by 2 44 true rfl rfl e44) (hK _ _ (Keeps.refl _ _) trivial)
              · intro a w' K hs' hdep hfr hK
                have e44 : a.tmps[44]?.getD undef = (.bool false) := hdep 2 (by decide) 44 rfl
                have f10 := hfr 10 (by decide)
                exact plan_skip (unwanted_by 2 44 true rfl rfl e44) (hK _ _ (Keeps.refl _ _) trivial)
              · intro a w' K hs' hdep hfr hK
                have e44 : a.tmps[44]?.getD undef = (.bool false) := hdep 2 (by decide) 44 rfl
                exact plan_skip (unwanted_by 2 44 true rfl rfl e44) (hK _ _ (Keeps.refl _ _) trivial)
              · intro a w' K hs' hdep hfr hK
                have e44 : a.tmps[44]?.getD undef = (.bool false) := hdep 2 (by decide) 44 rfl
                exact plan_skip (unwanted_by 2 44 true rfl rfl e44) (hK _ _ (Keeps.refl _ _) trivial)
              · intro a w' K hs' hdep hfr hK
                have e44 : a.tmps[44]?.getD undef = (.bool false) := hdep 2 (by decide) 44 rfl
                exact plan_skip (unwanted_by 2 44 true rfl rfl e44) (hK _ _ (Keeps.refl _ _) trivial)
              · intro a w' K hs' hdep hfr hK
                have e44 : a.tmps[44]?.getD undef = (.bool false) := hdep 2 (by decide) 44 rfl
                exact plan_skip (unwanted_by 2 44 true rfl rfl e44) (hK _ _ (Keeps.refl _ _) trivial)
              · intro a w' K hs' hdep hfr hK
                have e44 : a.tmps[44]?.getD undef = (.bool false) := hdep 2 (by decide) 44 rfl
                have f11 := hfr 11 (by decide)
                exact plan_skip (unwanted_by 2 44 true rfl rfl e44) (hK _ _ (Keeps.refl _ _) trivial)
              · intro a w' K hs' hdep hfr hK
                have e44 : a.tmps[44]?.getD undef = (.bool false) := hdep 2 (by decide) 44 rfl
                exact plan_skip (unwanted_by 2 44 true rfl rfl e44) (hK _ _ (Keeps.refl _ _) trivial)
              · intro a w' K hs' hdep hfr hK
                have e44 : a.tmps[44]?.getD undef = (.bool false) := hdep 2 (by decide) 44 rfl
                exact plan_skip (unwanted_by 2 44 true rfl rfl e44) (hK _ _ (Keeps.refl _ _) trivial)
              · intro a w' K hs' hdep hfr hK
                have e44 : a.tmps[44]?.getD undef = (.bool false) := hdep 2 (by decide) 44 rfl
                exact plan_do (by rfl) (plan_yield (i := 12) (V := fun _ _ v => v = (.bool false : Value)) (.bool false) (by go_simp) rfl hK)
            intro a wz hkz hdef hsz hv hfr
            have e54 : a.tmps[54]?.getD undef = (.bool false) := hv 12 54 rfl
            have he := act_eq a _ [some 42, some 43, some 44, some 45, some 46, some 47, some 48, some 49, some 50, some 51, some 52, some 53, some 54] 121 rfl hsz hdef hfr (fun d => a.tmps[d]?.getD undef) (fun _ _ => rfl)
            obtain ⟨v42, h42⟩ : ∃ v, a.tmps[42]?.getD undef = v := ⟨_, rfl⟩
            obtain ⟨v43, h43⟩ : ∃ v, a.tmps[43]?.getD undef = v := ⟨_, rfl⟩
            obtain ⟨v44, h44⟩ : ∃ v, a.tmps[44]?.getD undef = v := ⟨_, rfl⟩
            obtain ⟨v45, h45⟩ : ∃ v, a.tmps[45]?.getD undef = v := ⟨_, rfl⟩
            obtain ⟨v46, h46⟩ : ∃ v, a.tmps[46]?.getD undef = v := ⟨_, rfl⟩
            obtain ⟨v47, h47⟩ : ∃ v, a.tmps[47]?.getD undef = v := ⟨_, rfl⟩
            obtain ⟨v48, h48⟩ : ∃ v, a.tmps[48]?.getD undef = v := ⟨_, rfl⟩
            obtain ⟨v49, h49⟩ : ∃ v, a.tmps[49]?.getD undef = v := ⟨_, rfl⟩
            obtain ⟨v50, h50⟩ : ∃ v, a.tmps[50]?.getD undef = v := ⟨_, rfl⟩
            obtain ⟨v51, h51⟩ : ∃ v, a.tmps[51]?.getD undef = v := ⟨_, rfl⟩
            obtain ⟨v52, h52⟩ : ∃ v, a.tmps[52]?.getD undef = v := ⟨_, rfl⟩
            obtain ⟨v53, h53⟩ : ∃ v, a.tmps[53]?.getD undef = v := ⟨_, rfl⟩
            simp only [putAll, e54, h42, h43, h44, h45, h46, h47, h48, h49, h50, h51, h52, h53, List.setIfInBounds_toArray, List.set_cons_zero, List.set_cons_succ] at he
            clear e54 h42 h43 h44 h45 h46 h47 h48 h49 h50 h51 h52 h53 hdef hsz hv hfr
            subst he
            have HKZ := Lib.hid hkz
            have HWZ := Lib.hid (HWR9.out.trans hkz (fun _ _ e => e))
            have HXZ : Hid (Whole wz X 31 x.cells) := Lib.hid (HWW9.out.keep hkz (fun e => e))
            have HBZ : Hid (Whole wz B 31 v.cells) := Lib.hid (HB9.out.keep hkz (fun e => e))
            obtain ⟨xn, xv⟩ := whole_two HXZ.out
            obtain ⟨vn, vv⟩ := whole_two HBZ.out
            clear hkz
            by_cases e : x.node = v.node
            · rw [e] at xn
              by_cases hxv : x = v
              · have HEQ : Hid (∀ wz, (Op.equalIn 10000 31 (.agg x.cells.toArray) (.agg v.cells.toArray)).run Try.prog wz = .ok true wz) := Lib.hid (fun wz => by rw [vote_equal x v HXH.out HVH.out, decide_eq_true hxv])
                have HE := Lib.hid e
                clear hxv e xv vv
                go_wp2_with (first
                  | ((with_reducible refine wpList_load_row_by 31 (.tmp 11) ?_ ?_ X ?_ 31 x.cells.toArray (0, 0) _ ?_ Try.underlying31 ?_ ?_ ?_); rfl; rfl; rfl; exact HXZ.out; rfl; exact HSV9.out)
                  | ((with_reducible refine wpList_load_row_by 31 (.tmp 3) ?_ ?_ B ?_ 31 v.cells.toArray (0, 0) _ ?_ Try.underlying31 ?_ ?_ ?_); rfl; rfl; rfl; exact HBZ.out; rfl; exact HSVv.out)
                  | ((with_reducible refine wpList_neq_by (.tmp 62) (.tmp 63) 31 31 ?_ ?_ x.cells.toArray v.cells.toArray true ?_ ?_ Try.voteGuard ?_ ?_); rfl; rfl; rfl; rfl; exact HEQ.out)
                  | ((with_reducible refine wpList_skip_by 3 65 true ?_ ?_ ?_ ?_); rfl; rfl; kernel_rfl))
                go_roundw
                case rel => exact ⟨0 + 1, by omega, by go_num, by rw [HCT.out, if_pos HE.out]; first | rfl | simp, HWZ⟩
                case measure => simp [intOf]; omega
              · have HEQ : Hid (∀ wz, (Op.equalIn 10000 31 (.agg x.cells.toArray) (.agg v.cells.toArray)).run Try.prog wz = .ok false wz) := Lib.hid (fun wz => by rw [vote_equal x v HXH.out HVH.out, decide_eq_false hxv])
                have hvw : ¬ x.view ≤ v.view := by have h := (HME.out e).resolve_left hxv; omega
                have HE := Lib.hid e
                clear hxv e
                go_wp2_with (first
                  | ((with_reducible refine wpList_load_row_by 31 (.tmp 11) ?_ ?_ X ?_ 31 x.cells.toArray (0, 0) _ ?_ Try.underlying31 ?_ ?_ ?_); rfl; rfl; rfl; exact HXZ.out; rfl; exact HSV9.out)
                  | ((with_reducible refine wpList_load_row_by 31 (.tmp 3) ?_ ?_ B ?_ 31 v.cells.toArray (0, 0) _ ?_ Try.underlying31 ?_ ?_ ?_); rfl; rfl; rfl; exact HBZ.out; rfl; exact HSVv.out)
                  | ((with_reducible refine wpList_neq_by (.tmp 62) (.tmp 63) 31 31 ?_ ?_ x.cells.toArray v.cells.toArray false ?_ ?_ Try.voteGuard ?_ ?_); rfl; rfl; rfl; rfl; exact HEQ.out))
                go_roundw
                case rel => exact ⟨0 + 1, by omega, by go_num, by rw [HCT.out, if_pos HE.out]; first | rfl | simp, HWZ⟩
                case measure => simp [intOf]; omega
            · have t1 : (x.node == v.node) = false := by simpa using e
              have t3 : (x.node != v.node) = true := by simpa using e
              have HE := Lib.hid e
              clear e
              go_wp2
              go_roundw
              case rel => exact ⟨0 + 1, by omega, by go_num, by rw [HCT.out, if_neg HE.out]; first | rfl | simp, HWZ⟩
              case measure => simp [intOf]; omega
          · obtain ⟨p, rfl⟩ : ∃ p, q = p + 1 := ⟨q - 1, by omega⟩
            have HXY := Lib.hid (HPR.out p rfl)
            have hpl : p < out.length := by rw [HM.out]; omega
            have hry := vote_at0 HV89.out hpl
            generalize out[p] = y at hry HXY
            have HCY : Hid (∀ w', Same w9 w' → w'.cell? ⟨g8, p * 37, none⟩ = some (.int .i64 y.node)) := Lib.hid (fun w' k => by have h := rangeAt_keep hry k (fun _ e => e) 0 (.int .i64 y.node) rfl; rwa [Nat.add_zero] at h)
            have hq1 : ((p + 1 : Nat) : Int) = (p : Int) + 1 := by omega
            rw [hq1] at hjn ⊢
            clear HPR hry hpl
            go_wp2_with (first
              | ((with_reducible refine wpList_load_mid ?_ 31 (.tmp 40) ?_ g8 ((p + 1) * 37) ?_ x.cells _ ?_ Try.underlying31 ?_ ?_ ?_); rfl; rfl; rfl; exact HRA.out; rfl; exact HSL9.out)
              | ((with_reducible refine wpList_store_row ?_ 31 (.tmp 11) (.tmp 41) ?_ wr.heap.size x.cells.toArray ?_ ?_ 31 vote0.cells.toArray ?_ ?_ ?_ ?_ ?_); rfl; rfl; rfl; rfl; exact HNN9.out; exact HSV9.out; exact HSE9.out; exact HAL9.out; rw [HWX9.out, HXB9.out]))
            refine wp_region_do [[], [0], [1], [2], [2], [4, 2], [3, 5, 2], [6, 2], [7, 2], [2], [9, 2], [8, 10, 2], [2, 11]]
              [some 42, some 43, some 44, some 45, some 46, some 47, some 48, some 49, some 50, some 51, some 52, some 53, some 54]
              [.is (.int .i64 ((p : Int) + 1)), .is (.bool true), .is (.bool true), .is (.slice (some ⟨g8, 0, none⟩) m c8), .is (.int .i64 ((p : Int) + 1)), .is (.int .i64 (p : Int)), .is (.pointer (some ⟨g8, p * 37, none⟩)), .is (.pointer (some ⟨g8, p * 37, none⟩)), .is (.int .i64 y.node), .is (.pointer (some ⟨X, 0, none⟩)), .is (.int .i64 x.node), .is (.bool false), .is (.bool false)]
              16 _ _ 121 13 (by kernel_rfl) (by rfl) (by rfl) (by kernel_rfl) (by kernel_rfl) (by decide) ?_ ?_
            · refine ⟨?_, ?_, ?_, ?_, ?_, ?_, ?_, ?_, ?_, ?_, ?_, ?_, ?_, trivial⟩
              · intro a w' K hs' hdep hfr hK
                have f10 := hfr 10 (by decide)
                exact plan_do (by rfl) (plan_yield (i := 0) (V := fun _ _ v => v = (.int .i64 ((p : Int) + 1) : Value)) (.int .i64 ((p : Int) + 1)) (by go_simp) rfl hK)
              · intro a w' K hs' hdep hfr hK
                have e42 : a.tmps[42]?.getD undef = (.int .i64 ((p : Int) + 1)) := hdep 0 (by decide) 42 rfl
                have hgt : (0 : Int) < (p : Int) + 1 := by omega
                exact plan_do (by rfl) (plan_yield (i := 1) (V := fun _ _ v => v = (.bool true : Value)) (.bool true) (by go_simp) rfl hK)
              · intro a w' K hs' hdep hfr hK
                have e43 : a.tmps[43]?.getD undef = (.bool true) := hdep 1 (by decide) 43 rfl
                exact plan_do (by rfl) (plan_yield (i := 2) (V := fun _ _ v => v = (.bool true : Value)) (.bool true) (by go_simp) rfl hK)
              · intro a w' K hs' hdep hfr hK
                have e44 : a.tmps[44]?.getD undef = (.bool true) := hdep 2 (by decide) 44 rfl
                have f8 := hfr 8 (by decide)
                exact plan_do (wanted_of 2 44 true rfl rfl e44) (plan_yield (i := 3) (V := fun _ _ v => v = (.slice (some ⟨g8, 0, none⟩) m c8 : Value)) (.slice (some ⟨g8, 0, none⟩) m c8) (by go_simp) rfl hK)
              · intro a w' K hs' hdep hfr hK
                have e44 : a.tmps[44]?.getD undef = (.bool true) := hdep 2 (by decide) 44 rfl
                have f10 := hfr 10 (by decide)
                exact plan_do (wanted_of 2 44 true rfl rfl e44) (plan_yield (i := 4) (V := fun _ _ v => v = (.int .i64 ((p : Int) + 1) : Value)) (.int .i64 ((p : Int) + 1)) (by go_simp) rfl hK)
              · intro a w' K hs' hdep hfr hK
                have e46 : a.tmps[46]?.getD undef = (.int .i64 ((p : Int) + 1)) := hdep 4 (by decide) 46 rfl
                have e44 : a.tmps[44]?.getD undef = (.bool true) := hdep 2 (by decide) 44 rfl
                have ex : (p : Int) + 1 - 1 = (p : Int) := by omega
                have wj : IntKind.i64.wrap (p : Int) = (p : Int) := IntWalk.i64_in _ (by omega)
                exact plan_do (wanted_of 2 44 true rfl rfl e44) (plan_yield (i := 5) (V := fun _ _ v => v = (.int .i64 (p : Int) : Value)) (.int .i64 (p : Int)) (by go_simp) rfl hK)
              · intro a w' K hs' hdep hfr hK
                have e45 : a.tmps[45]?.getD undef = (.slice (some ⟨g8, 0, none⟩) m c8) := hdep 3 (by decide) 45 rfl
                have e47 : a.tmps[47]?.getD undef = (.int .i64 (p : Int)) := hdep 5 (by decide) 47 rfl
                have e44 : a.tmps[44]?.getD undef = (.bool true) := hdep 2 (by decide) 44 rfl
                have hin2 : (p : Int) < (m : Int) := by omega
                exact plan_do (wanted_of 2 44 true rfl rfl e44) (plan_yield (i := 6) (V := fun _ _ v => v = (.pointer (some ⟨g8, p * 37, none⟩) : Value)) (.pointer (some ⟨g8, p * 37, none⟩)) (by go_simp) rfl hK)
              · intro a w' K hs' hdep hfr hK
                have e48 : a.tmps[48]?.getD undef = (.pointer (some ⟨g8, p * 37, none⟩)) := hdep 6 (by decide) 48 rfl
                have e44 : a.tmps[44]?.getD undef = (.bool true) := hdep 2 (by decide) 44 rfl
                exact plan_do (wanted_of 2 44 true rfl rfl e44) (plan_yield (i := 7) (V := fun _ _ v => v = (.pointer (some ⟨g8, p * 37, none⟩) : Value)) (.pointer (some ⟨g8, p * 37, none⟩)) (by go_simp) rfl hK)
              · intro a w' K hs' hdep hfr hK
                have e49 : a.tmps[49]?.getD undef = (.pointer (some ⟨g8, p * 37, none⟩)) := hdep 7 (by decide) 49 rfl
                have e44 : a.tmps[44]?.getD undef = (.bool true) := hdep 2 (by decide) 44 rfl
                have cl := HCY.out _ hs'
                exact plan_do (wanted_of 2 44 true rfl rfl e44) (plan_yield (i := 8) (V := fun _ _ v => v = (.int .i64 y.node : Value)) (.int .i64 y.node) (by go_simp) rfl hK)
              · intro a w' K hs' hdep hfr hK
                have e44 : a.tmps[44]?.getD undef = (.bool true) := hdep 2 (by decide) 44 rfl
                have f11 := hfr 11 (by decide)
                exact plan_do (wanted_of 2 44 true rfl rfl e44) (plan_yield (i := 9) (V := fun _ _ v => v = (.pointer (some ⟨X, 0, none⟩) : Value)) (.pointer (some ⟨X, 0, none⟩)) (by go_simp) rfl hK)
              · intro a w' K hs' hdep hfr hK
                have e51 : a.tmps[51]?.getD undef = (.pointer (some ⟨X, 0, none⟩)) := hdep 9 (by decide) 51 rfl
                have e44 : a.tmps[44]?.getD undef = (.bool true) := hdep 2 (by decide) 44 rfl
                have cl := HCX.out _ hs'
                exact plan_do (wanted_of 2 44 true rfl rfl e44) (plan_yield (i := 10) (V := fun _ _ v => v = (.int .i64 x.node : Value)) (.int .i64 x.node) (by go_simp) rfl hK)
              · intro a w' K hs' hdep hfr hK
                have e50 : a.tmps[50]?.getD undef = (.int .i64 y.node) := hdep 8 (by decide) 50 rfl
                have e52 : a.tmps[52]?.getD undef = (.int .i64 x.node) := hdep 10 (by decide) 52 rfl
                have e44 : a.tmps[44]?.getD undef = (.bool true) := hdep 2 (by decide) 44 rfl
                have hnb : ¬ y.node ≥ x.node := by have := HXY.out; omega
                exact plan_do (wanted_of 2 44 true rfl rfl e44) (plan_yield (i := 11) (V := fun _ _ v => v = (.bool false : Value)) (.bool false) (by go_simp) rfl hK)
              · intro a w' K hs' hdep hfr hK
                have e44 : a.tmps[44]?.getD undef = (.bool true) := hdep 2 (by decide) 44 rfl
                have e53 : a.tmps[53]?.getD undef = (.bool false) := hdep 11 (by decide) 53 rfl
                exact plan_do (by rfl) (plan_yield (i := 12) (V := fun _ _ v => v = (.bool false : Value)) (.bool false) (by go_simp) rfl hK)
            intro a wz hkz hdef hsz hv hfr
            have e54 : a.tmps[54]?.getD undef = (.bool false) := hv 12 54 rfl
            have he := act_eq a _ [some 42, some 43, some 44, some 45, some 46, some 47, some 48, some 49, some 50, some 51, some 52, some 53, some 54] 121 rfl hsz hdef hfr (fun d => a.tmps[d]?.getD undef) (fun _ _ => rfl)
            obtain ⟨v42, h42⟩ : ∃ v, a.tmps[42]?.getD undef = v := ⟨_, rfl⟩
            obtain ⟨v43, h43⟩ : ∃ v, a.tmps[43]?.getD undef = v := ⟨_, rfl⟩
            obtain ⟨v44, h44⟩ : ∃ v, a.tmps[44]?.getD undef = v := ⟨_, rfl⟩
            obtain ⟨v45, h45⟩ : ∃ v, a.tmps[45]?.getD undef = v := ⟨_, rfl⟩
            obtain ⟨v46, h46⟩ : ∃ v, a.tmps[46]?.getD undef = v := ⟨_, rfl⟩
            obtain ⟨v47, h47⟩ : ∃ v, a.tmps[47]?.getD undef = v := ⟨_, rfl⟩
            obtain ⟨v48, h48⟩ : ∃ v, a.tmps[48]?.getD undef = v := ⟨_, rfl⟩
            obtain ⟨v49, h49⟩ : ∃ v, a.tmps[49]?.getD undef = v := ⟨_, rfl⟩
            obtain ⟨v50, h50⟩ : ∃ v, a.tmps[50]?.getD undef = v := ⟨_, rfl⟩
            obtain ⟨v51, h51⟩ : ∃ v, a.tmps[51]?.getD undef = v := ⟨_, rfl⟩
            obtain ⟨v52, h52⟩ : ∃ v, a.tmps[52]?.getD undef = v := ⟨_, rfl⟩
            obtain ⟨v53, h53⟩ : ∃ v, a.tmps[53]?.getD undef = v := ⟨_, rfl⟩
            simp only [putAll, e54, h42, h43, h44, h45, h46, h47, h48, h49, h50, h51, h52, h53, List.setIfInBounds_toArray, List.set_cons_zero, List.set_cons_succ] at he
            clear e54 h42 h43 h44 h45 h46 h47 h48 h49 h50 h51 h52 h53 hdef hsz hv hfr
            subst he
            have HKZ := Lib.hid hkz
            have HWZ := Lib.hid (HWR9.out.trans hkz (fun _ _ e => e))
            have HXZ : Hid (Whole wz X 31 x.cells) := Lib.hid (HWW9.out.keep hkz (fun e => e))
            have HBZ : Hid (Whole wz B 31 v.cells) := Lib.hid (HB9.out.keep hkz (fun e => e))
            obtain ⟨xn, xv⟩ := whole_two HXZ.out
            obtain ⟨vn, vv⟩ := whole_two HBZ.out
            clear hkz
            by_cases e : x.node = v.node
            · rw [e] at xn
              by_cases hxv : x = v
              · have HEQ : Hid (∀ wz, (Op.equalIn 10000 31 (.agg x.cells.toArray) (.agg v.cells.toArray)).run Try.prog wz = .ok true wz) := Lib.hid (fun wz => by rw [vote_equal x v HXH.out HVH.out, decide_eq_true hxv])
                have HE := Lib.hid e
                clear hxv e xv vv
                go_wp2_with (first
                  | ((with_reducible refine wpList_load_row_by 31 (.tmp 11) ?_ ?_ X ?_ 31 x.cells.toArray (0, 0) _ ?_ Try.underlying31 ?_ ?_ ?_); rfl; rfl; rfl; exact HXZ.out; rfl; exact HSV9.out)
                  | ((with_reducible refine wpList_load_row_by 31 (.tmp 3) ?_ ?_ B ?_ 31 v.cells.toArray (0, 0) _ ?_ Try.underlying31 ?_ ?_ ?_); rfl; rfl; rfl; exact HBZ.out; rfl; exact HSVv.out)
                  | ((with_reducible refine wpList_neq_by (.tmp 62) (.tmp 63) 31 31 ?_ ?_ x.cells.toArray v.cells.toArray true ?_ ?_ Try.voteGuard ?_ ?_); rfl; rfl; rfl; rfl; exact HEQ.out)
                  | ((with_reducible refine wpList_skip_by 3 65 true ?_ ?_ ?_ ?_); rfl; rfl; kernel_rfl))
                go_roundw
                case rel => exact ⟨p + 1 + 1, by omega, by go_num, by rw [HCT.out, if_pos HE.out]; first | rfl | simp, HWZ⟩
                case measure => simp [intOf]; omega
              · have HEQ : Hid (∀ wz, (Op.equalIn 10000 31 (.agg x.cells.toArray) (.agg v.cells.toArray)).run Try.prog wz = .ok false wz) := Lib.hid (fun wz => by rw [vote_equal x v HXH.out HVH.out, decide_eq_false hxv])
                have hvw : ¬ x.view ≤ v.view := by have h := (HME.out e).resolve_left hxv; omega
                have HE := Lib.hid e
                clear hxv e
                go_wp2_with (first
                  | ((with_reducible refine wpList_load_row_by 31 (.tmp 11) ?_ ?_ X ?_ 31 x.cells.toArray (0, 0) _ ?_ Try.underlying31 ?_ ?_ ?_); rfl; rfl; rfl; exact HXZ.out; rfl; exact HSV9.out)
                  | ((with_reducible refine wpList_load_row_by 31 (.tmp 3) ?_ ?_ B ?_ 31 v.cells.toArray (0, 0) _ ?_ Try.underlying31 ?_ ?_ ?_); rfl; rfl; rfl; exact HBZ.out; rfl; exact HSVv.out)
                  | ((with_reducible refine wpList_neq_by (.tmp 62) (.tmp 63) 31 31 ?_ ?_ x.cells.toArray v.cells.toArray false ?_ ?_ Try.voteGuard ?_ ?_); rfl; rfl; rfl; rfl; exact HEQ.out))
                go_roundw
                case rel => exact ⟨p + 1 + 1, by omega, by go_num, by rw [HCT.out, if_pos HE.out]; first | rfl | simp, HWZ⟩
                case measure => simp [intOf]; omega
            · have t1 : (x.node == v.node) = false := by simpa using e
              have t3 : (x.node != v.node) = true := by simpa using e
              have HE := Lib.hid e
              clear e
              go_wp2
              go_roundw
              case rel => exact ⟨p + 1 + 1, by omega, by go_num, by rw [HCT.out, if_neg HE.out]; first | rfl | simp, HWZ⟩
              case measure => simp [intOf]; omega
        · obtain rfl : q = m := by omega
          have hnlt2 : ¬ (q : Int) < (q : Int) := by omega
          have HF1 : Hid ((out.take q).countP (fun y => decide (y.node = v.node)) = 1) := Lib.hid (by
            rw [List.take_of_length_le (by rw [HM.out]; exact Nat.le_refl _)]
            have h1 := rise_count VoteX.node HRO.out v.node
            obtain ⟨y, h2, h3⟩ := insK_has VoteX.node mgV mgV_node v al
            rw [HIN.out] at h2
            have h4 : 0 < out.countP (fun y => decide (y.node = v.node)) := List.countP_pos_iff.2 ⟨y, h2, by simpa using h3⟩
            omega)
          rw [HF1.out]
          have HLEN : Hid (q = ma ∨ q = ma + 1) := Lib.hid (by
            have h1 := insK_len VoteX.node mgV v al
            rw [HIN.out, HM.out, HMA.out] at h1; exact h1)
          go_wp2
          go_loopw [75] (fun i wr => ∃ a : Nat, a ≤ ma ∧ i = .int .i64 a ∧ Hid (Same w8 wr)) (fun i _ => ma - (intOf i).toNat)
          case atStart => exact ⟨0, by omega, rfl, HS⟩
          case round =>
            clear HS
            obtain ⟨a, ha, rfl, HS⟩ := hrel
            obtain ⟨wo, rfl⟩ : ∃ wo : World, wo = wr := ⟨_, rfl⟩
            by_cases hlta : a < ma
            · have hal : a < al.length := by rw [HMA.out]; exact hlta
              have hra := vote_at0 (HVA8.out.same HS.out) hal
              have HXO : Hid al[a].ok := Lib.hid (HAO.out _ (List.getElem_mem hal))
              have HUN : Hid (∀ y ∈ out, al[a].node = y.node → ¬ al[a].node = v.node → al[a] = y) := Lib.hid (fun y hy e1 e2 => by
                have h1 := insK_old VoteX.node mgV v al al[a] (List.getElem_mem hal) e2
                rw [HIN.out] at h1
                exact rise_same VoteX.node HRO.out h1 hy e1)
              generalize al[a] = x at hra HXO HUN
              have HRA := Lib.hid hra
              have HXH := Lib.hid HXO.out.head
              have hjn : (a : Int) < (ma : Int) := by omega
              have HAL3 := Lib.hid (vote_all x)
              have HSL3 := Lib.hid (size_voteL x HXH.out)
              have HSV3 := Lib.hid (size_vote x HXH.out)
              have HSE3 := Lib.hid (size_two vote0 x vote0_head HXH.out)
              have HNN3 : Hid ((wo.alloc (.cells vote0.cells.toArray 31)).heap[wo.heap.size]? = some (.cells vote0.cells.toArray 31 (0, 0))) := Lib.hid (heap_alloc_new wo _)
              obtain ⟨w3, hw3⟩ : ∃ w', (wo.alloc (.cells vote0.cells.toArray 31)).setRow wo.heap.size x.cells.toArray = w' := ⟨_, rfl⟩
              obtain ⟨X, hX3⟩ : ∃ X, wo.heap.size = X := ⟨_, rfl⟩
              have HKW3 : Hid (Same wo w3) := Lib.hid (by rw [← hw3]; exact ((Keeps.refl _ _).alloc _).setRow _ _ (.inl (Nat.le_refl _)))
              have HWW3 : Hid (Whole w3 X 31 x.cells) := Lib.hid (by rw [← hw3, ← hX3]; exact Whole.row (cs := vote0.cells) (heap_alloc_new wo _))
              have HWX3 := Lib.hid hw3
              have HXB3 := Lib.hid hX3
              clear hw3 hX3
              have HWR3 := Lib.hid (HS.out.trans HKW3.out (fun _ _ e => e))
              clear hra
              go_wp2_with (first
                | ((with_reducible refine wpList_load_mid ?_ 31 (.tmp 77) ?_ g (a * 37) ?_ x.cells _ ?_ Try.underlying31 ?_ ?_ ?_); rfl; rfl; rfl; exact HRA.out; rfl; exact HSL3.out)
                | ((with_reducible refine wpList_store_row ?_ 31 (.tmp 13) (.tmp 78) ?_ wo.heap.size x.cells.toArray ?_ ?_ 31 vote0.cells.toArray ?_ ?_ ?_ ?_ ?_); rfl; rfl; rfl; rfl; exact HNN3.out; exact HSV3.out; exact HSE3.out; exact HAL3.out; rw [HWX3.out, HXB3.out]))
              go_loopw [81] (fun i wr => ∃ b : Nat, b ≤ q ∧ i = .int .i64 b ∧ Hid (Same w3 wr)) (fun i _ => q - (intOf i).toNat)
              case atStart => exact ⟨0, by omega, rfl, Lib.hid (Keeps.refl _ _)⟩
              case round =>
                obtain ⟨b, hb, rfl, HSI⟩ := hrel
                by_cases hltb : b < q
                · have hbl : b < out.length := by rw [HM.out]; exact hltb
                  have hra := vote_at0 (HV8.out.same (HWR3.out.trans HSI.out (fun _ _ e => e))) hbl
                  have HYO : Hid out[b].ok := Lib.hid (HOO.out _ (List.getElem_mem hbl))
                  have HUY : Hid (x.node = out[b].node → ¬ x.node = v.node → x = out[b]) := Lib.hid (HUN.out _ (List.getElem_mem hbl))
                  generalize out[b] = y at hra HYO HUY
                  have HRB := Lib.hid hra
                  have HYH := Lib.hid HYO.out.head
                  have hjb : (b : Int) < (q : Int) := by omega
                  have HAL5 := Lib.hid (vote_all y)
                  have HSL5 := Lib.hid (size_voteL y HYH.out)
                  have HSV5 := Lib.hid (size_vote y HYH.out)
                  have HSE5 := Lib.hid (size_two vote0 y vote0_head HYH.out)
                  have HNN5 : Hid ((wr.alloc (.cells vote0.cells.toArray 31)).heap[wr.heap.size]? = some (.cells vote0.cells.toArray 31 (0, 0))) := Lib.hid (heap_alloc_new wr _)
                  obtain ⟨w5, hw5⟩ : ∃ w', (wr.alloc (.cells vote0.cells.toArray 31)).setRow wr.heap.size y.cells.toArray = w' := ⟨_, rfl⟩
                  obtain ⟨Y, hX5⟩ : ∃ X, wr.heap.size = X := ⟨_, rfl⟩
                  have HKW5 : Hid (Same wr w5) := Lib.hid (by rw [← hw5]; exact ((Keeps.refl _ _).alloc _).setRow _ _ (.inl (Nat.le_refl _)))
                  have HWW5 : Hid (Whole w5 Y 31 y.cells) := Lib.hid (by rw [← hw5, ← hX5]; exact Whole.row (cs := vote0.cells) (heap_alloc_new wr _))
                  have HWX5 := Lib.hid hw5
                  have HXB5 := Lib.hid hX5
                  clear hw5 hX5
                  have HSI5 := Lib.hid (HSI.out.trans HKW5.out (fun _ _ e => e))
                  have HXX : Hid (Whole w5 X 31 x.cells) := Lib.hid (HWW3.out.keep HSI5.out (fun e => e))
                  have HBX : Hid (Whole w5 B 31 v.cells) := Lib.hid (HB8.out.keep (HWR3.out.trans HSI5.out (fun _ _ e => e)) (fun e => e))
                  obtain ⟨xn, _⟩ := whole_two HXX.out
                  obtain ⟨yn, _⟩ := whole_two HWW5.out
                  obtain ⟨vn, _⟩ := whole_two HBX.out
                  clear hra
                  by_cases e1 : x.node = y.node
                  · by_cases e2 : x.node = v.node
                    · rw [e2] at xn
                      rw [← e1, e2] at yn
                      clear e1 e2
                      go_wp2_with (first
                        | ((with_reducible refine wpList_load_mid ?_ 31 (.tmp 83) ?_ g8 (b * 37) ?_ y.cells _ ?_ Try.underlying31 ?_ ?_ ?_); rfl; rfl; rfl; exact HRB.out; rfl; exact HSL5.out)
                        | ((with_reducible refine wpList_store_row ?_ 31 (.tmp 15) (.tmp 84) ?_ wr.heap.size y.cells.toArray ?_ ?_ 31 vote0.cells.toArray ?_ ?_ ?_ ?_ ?_); rfl; rfl; rfl; rfl; exact HNN5.out; exact HSV5.out; exact HSE5.out; exact HAL5.out; rw [HWX5.out, HXB5.out])
                        | ((with_reducible refine wpList_skip_by 12 97 true ?_ ?_ ?_ ?_); rfl; rfl; kernel_rfl))
                      go_roundw
                      case rel => exact ⟨b + 1, by omega, by go_num, HSI5⟩
                      case measure => simp [intOf]; omega
                    · have HEQ : Hid (∀ wz, (Op.equalIn 10000 31 (.agg x.cells.toArray) (.agg y.cells.toArray)).run Try.prog wz = .ok true wz) := Lib.hid (fun wz => by rw [vote_equal x y HXH.out HYH.out, decide_eq_true (HUY.out e1 e2)])
                      have t2 : (x.node == v.node) = false := by simpa using e2
                      have t3 : (x.node != v.node) = true := by simpa using e2
                      rw [← e1] at yn
                      clear e1 HUY
                      go_wp2_with (first
                        | ((with_reducible refine wpList_load_mid ?_ 31 (.tmp 83) ?_ g8 (b * 37) ?_ y.cells _ ?_ Try.underlying31 ?_ ?_ ?_); rfl; rfl; rfl; exact HRB.out; rfl; exact HSL5.out)
                        | ((with_reducible refine wpList_store_row ?_ 31 (.tmp 15) (.tmp 84) ?_ wr.heap.size y.cells.toArray ?_ ?_ 31 vote0.cells.toArray ?_ ?_ ?_ ?_ ?_); rfl; rfl; rfl; rfl; exact HNN5.out; exact HSV5.out; exact HSE5.out; exact HAL5.out; rw [HWX5.out, HXB5.out])
                        | ((with_reducible refine wpList_load_row_by 31 (.tmp 13) ?_ ?_ X ?_ 31 x.cells.toArray (0, 0) _ ?_ Try.underlying31 ?_ ?_ ?_); rfl; rfl; rfl; exact HXX.out; rfl; exact HSV3.out)
                        | ((with_reducible refine wpList_load_row_by 31 (.tmp 15) ?_ ?_ Y ?_ 31 y.cells.toArray (0, 0) _ ?_ Try.underlying31 ?_ ?_ ?_); rfl; rfl; rfl; exact HWW5.out; rfl; exact HSV5.out)
                        | ((with_reducible refine wpList_neq_by (.tmp 98) (.tmp 99) 31 31 ?_ ?_ x.cells.toArray y.cells.toArray true ?_ ?_ Try.voteGuard ?_ ?_); rfl; rfl; rfl; rfl; exact HEQ.out))
                      go_roundw
                      case rel => exact ⟨b + 1, by omega, by go_num, HSI5⟩
                      case measure => simp [intOf]; omega
                  · have t1 : (x.node == y.node) = false := by simpa using e1
                    clear HUY
                    go_wp2_with (first
                      | ((with_reducible refine wpList_load_mid ?_ 31 (.tmp 83) ?_ g8 (b * 37) ?_ y.cells _ ?_ Try.underlying31 ?_ ?_ ?_); rfl; rfl; rfl; exact HRB.out; rfl; exact HSL5.out)
                      | ((with_reducible refine wpList_store_row ?_ 31 (.tmp 15) (.tmp 84) ?_ wr.heap.size y.cells.toArray ?_ ?_ 31 vote0.cells.toArray ?_ ?_ ?_ ?_ ?_); rfl; rfl; rfl; rfl; exact HNN5.out; exact HSV5.out; exact HSE5.out; exact HAL5.out; rw [HWX5.out, HXB5.out])
                      | ((with_reducible refine wpList_skip_by 5 90 true ?_ ?_ ?_ ?_); rfl; rfl; kernel_rfl)
                      | ((with_reducible refine wpList_skip_by 12 97 true ?_ ?_ ?_ ?_); rfl; rfl; kernel_rfl))
                    go_roundw
                    case rel => exact ⟨b + 1, by omega, by go_num, HSI5⟩
                    case measure => simp [intOf]; omega
                · obtain rfl : b = q := by omega
                  have hnb : ¬ (b : Int) < (b : Int) := by omega
                  have HFIN := Lib.hid (HWR3.out.trans HSI.out (fun _ _ e => e))
                  go_wp2
                  go_roundw
                  case rel => exact ⟨a + 1, by omega, by go_num, HFIN⟩
                  case measure => simp [intOf]; omega
            · obtain rfl : a = ma := by omega
              have hna : ¬ (a : Int) < (a : Int) := by omega
              have HFIN := Lib.hid (HS8.out.trans HS.out (fun _ _ e => e))
              rcases HLEN.out with h | h
              · subst h
                go_wp2_with (first
                  | ((with_reducible refine wpList_skip_by 8 112 false ?_ ?_ ?_ ?_); rfl; rfl; kernel_rfl))
                go_ret
                exact ⟨rfl, HFIN.out⟩
              · subst h
                have hq : ((a + 1 : Nat) : Int) = (a : Int) + 1 := by omega
                have hqn : (((a : Int) + 1) == (a : Int)) = false := by simp; omega
                rw [hq]
                go_wp2
                go_ret
                exact ⟨rfl, HFIN.out⟩
end Go.Proofs.Yteidjpnmfmcfkaa
