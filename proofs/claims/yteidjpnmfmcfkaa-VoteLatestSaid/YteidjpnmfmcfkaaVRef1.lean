/- The document's Add of votes. -/
import Derived.Test.YteidjpnmfmcfkaaVSame1
namespace Go.Proofs.Yteidjpnmfmcfkaa
open Go.RowKit
set_option linter.unusedVariables false

def mgV (x v : VoteX) : VoteX := if x.view ≤ v.view then v else x
theorem mgV_node (x v : VoteX) (h : x.node = v.node) : (mgV x v).node = v.node := by unfold mgV; split <;> simp [h]
theorem whole_two {w : World} {X : Nat} {y : VoteX} (h : Whole w X 31 y.cells) : w.cell? ⟨X, 0, none⟩ = some (.int .i64 y.node) ∧ w.cell? ⟨X, 1, none⟩ = some (.int .u64 y.view) := by
  have h0 : w.heap[X]? = some (.cells y.cells.toArray 31 (0, 0)) := h
  simp only [World.cell?, h0]
  exact ⟨rfl, rfl⟩
def VRowPost (w : World) (ads : List VoteX) (e : Ending) (w' : World) : Prop := ∃ g c', e = .returned (.slice (some ⟨g, 0, none⟩) ads.length c') ∧ VotesAt w' (some ⟨g, 0, none⟩) ads ∧ Same w w'
theorem refStep_len (v : VoteX) : ∀ (vs acc : List VoteX) (b : Bool), (vs.foldl (refStep VoteX.node mgV v) (acc, b)).1.length ≤ acc.length + 2 * vs.length
  | [], acc, b => by simp
  | x :: r, acc, b => by
    rw [List.foldl_cons]
    obtain ⟨a2, b2, e⟩ : ∃ a2 b2, refStep VoteX.node mgV v (acc, b) x = (a2, b2) := ⟨_, _, rfl⟩
    rw [e]
    have h1 := refStep_len v r a2 b2
    have h2 : a2.length ≤ acc.length + 2 := by
      unfold refStep at e
      split at e
      · simp only [Prod.mk.injEq] at e; rw [← e.1]; split <;> simp
      · simp only [Prod.mk.injEq] at e; rw [← e.1]; split <;> simp
    simp only [List.length_cons]; omega
theorem refStep_ok (v : VoteX) (hv : v.ok) : ∀ (vs acc : List VoteX) (b : Bool), (∀ x ∈ vs, x.ok) → (∀ x ∈ acc, x.ok) → ∀ x ∈ (vs.foldl (refStep VoteX.node mgV v) (acc, b)).1, x.ok
  | [], acc, b, _, h => by simpa using h
  | x :: r, acc, b, hs, h => by
    rw [List.foldl_cons]
    obtain ⟨a2, b2, e⟩ : ∃ a2 b2, refStep VoteX.node mgV v (acc, b) x = (a2, b2) := ⟨_, _, rfl⟩
    rw [e]
    refine refStep_ok v hv r a2 b2 (fun y hy => hs y (by simp [hy])) (fun y hy => ?_)
    have hx := hs x (by simp)
    have hg : (mgV x v).ok := by unfold mgV; split <;> assumption
    unfold refStep at e
    split at e
    all_goals
      simp only [Prod.mk.injEq] at e
      rw [← e.1] at hy
      rcases List.mem_append.1 hy with h1 | h1
      · split at h1
        · rcases List.mem_append.1 h1 with h1 | h1
          · exact h y h1
          · simp at h1; rw [h1]; exact hv
        · exact h y h1
      · simp at h1; rw [h1]; assumption

set_option maxRecDepth 100000 in
set_option maxHeartbeats 25600000 in
theorem refAdd_any (ao : Option Addr) (n cp : Nat) (vs : List VoteX) (v : VoteX) (w : World) (h : VotesAt w ao vs) (hok : ∀ v ∈ vs, v.ok) (hv : v.ok) (hn : vs.length = n) (hl : n ≤ 1000) :
    Calls Try.prog 14 #[.slice ao n cp, .agg v.cells.toArray] w (VRowPost w (refAddK VoteX.node mgV vs v)) := by
  obtain ⟨ads, has⟩ : ∃ ads, refAddK VoteX.node mgV vs v = ads := ⟨_, rfl⟩
  rw [has]
  have HAS := Lib.hid has
  have HV := Lib.hid h
  have HOK := Lib.hid hok
  have HN := Lib.hid hn
  have HVO := Lib.hid hv
  have HVH := Lib.hid hv.head
  have HALV := Lib.hid (vote_all v)
  have HSV := Lib.hid (size_vote v hv.head)
  have HCLV : Hid (v.cells.toArray.size = 37) := Lib.hid (by rw [List.size_toArray, v.cells_length hv.head])
  obtain ⟨B, hB⟩ : ∃ B, w.heap.size = B := ⟨_, rfl⟩
  obtain ⟨w1, hw1⟩ : ∃ w1, w.alloc (.cells v.cells.toArray 31) = w1 := ⟨_, rfl⟩
  have HW1 : Hid (Same w w1) := Lib.hid (by rw [← hw1]; exact (Keeps.refl _ _).alloc _)
  have HB1 : Hid (Whole w1 B 31 v.cells) := Lib.hid (by rw [← hw1, ← hB]; exact heap_alloc_new w _)
  have HW := Lib.hid hw1
  have HSZ1 : Hid (w1.heap.size = B + 1) := Lib.hid (by rw [← hw1, World.size_alloc, hB])
  have HBB := Lib.hid hB
  have HOW0 := Lib.hid (own_votes0 w1)
  have hzv := Try.zeroVote
  obtain ⟨ie, hie, hz0, hz1, hz2⟩ := info_partsV Try.infoVoteR
  have HZ := Lib.hid hz0
  clear has h hok hv hn hw1 hB hz0
  go_enter Try.func14, Try.ntmps14
  go_wp2_with fail
  rw [HW.out, HBB.out]
  go_wp2
  go_loopw [5, 6, 7] (fun tv tb i wr => ∃ j : Nat, j ≤ n ∧ i = .int .i64 j ∧ ∃ g c k b, Hid ((vs.take j).foldl (refStep VoteX.node mgV v) ([], false) = (k, b)) ∧ tv = .slice (some ⟨g, 0, none⟩) (List.length k) c ∧ tb = .bool b ∧ Hid (wr.ownsRow w1.heap.size 31 37 (.slice (some ⟨g, 0, none⟩) k.length c) k.length (k.flatMap VoteX.cells)) ∧ Hid (Same w1 wr)) (fun _ _ i _ => n - (intOf i).toNat)
  case atStart => exact ⟨0, by omega, rfl, B + 1, 0, [], false, Lib.hid rfl, rfl, rfl, Lib.hid (by rw [← HSZ1.out]; exact HOW0.out), Lib.hid ((Keeps.refl _ _).alloc _)⟩
  case round =>
    obtain ⟨j, hj, rfl, g, c, k, b, HF, rfl, rfl, HO, HS⟩ := hrel
    have HKL : Hid (k.length ≤ 2000) := Lib.hid (by
      have h1 := refStep_len v (vs.take j) [] false
      rw [HF.out] at h1
      simp only [List.length_nil, List.length_take, HN.out] at h1; omega)
    have HKO : Hid (∀ u ∈ k, u.ok) := Lib.hid (by
      have h1 := refStep_ok v HVO.out (vs.take j) [] false (fun x hx => HOK.out x (List.mem_of_mem_take hx)) (by simp)
      rw [HF.out] at h1; exact h1)
    have HKH : Hid (∀ u ∈ k, u.head.length = 32) := Lib.hid (fun u hu => (HKO.out u hu).head)
    have HWR := Lib.hid (HW1.out.trans HS.out (fun _ _ e => e))
    by_cases hlt : j < n
    · have hjl : j < vs.length := by rw [HN.out]; exact hlt
      obtain ⟨go, off, rfl, hra⟩ := (HV.out.same HWR.out).at hjl
      have HXO : Hid vs[j].ok := Lib.hid (HOK.out _ (List.getElem_mem hjl))
      have HTK : Hid ((vs.take (j + 1)).foldl (refStep VoteX.node mgV v) ([], false) = refStep VoteX.node mgV v (k, b) vs[j]) := Lib.hid (by rw [List.take_add_one, List.getElem?_eq_getElem hjl, List.foldl_append, HF.out]; rfl)
      generalize vs[j] = x at hra HXO HTK
      have HRA := Lib.hid hra
      have HXH := Lib.hid HXO.out.head
      have HALX := Lib.hid (vote_all x)
      have HSL := Lib.hid (size_voteL x HXH.out)
      have HSX := Lib.hid (size_vote x HXH.out)
      have HSE := Lib.hid (size_two vote0 x vote0_head HXH.out)
      have HSXV := Lib.hid (size_two x v HXH.out HVH.out)
      have HCLX : Hid (x.cells.toArray.size = 37) := Lib.hid (by rw [List.size_toArray, x.cells_length HXH.out])
      have HN5 : Hid ((wr.alloc (.cells vote0.cells.toArray 31)).heap[wr.heap.size]? = some (.cells vote0.cells.toArray 31 (0, 0))) := Lib.hid (heap_alloc_new wr _)
      obtain ⟨wx, hwx⟩ : ∃ wx, (wr.alloc (.cells vote0.cells.toArray 31)).setRow wr.heap.size x.cells.toArray = wx := ⟨_, rfl⟩
      obtain ⟨X, hX⟩ : ∃ X, wr.heap.size = X := ⟨_, rfl⟩
      have hkx : Same wr wx := by rw [← hwx]; exact ((Keeps.refl _ _).alloc _).setRow _ _ (.inl (Nat.le_refl _))
      have HX : Hid (Whole wx X 31 x.cells) := Lib.hid (by rw [← hwx, ← hX]; exact Whole.row (cs := vote0.cells) (heap_alloc_new wr _))
      have HSX1 := Lib.hid (HS.out.trans hkx (fun _ _ e => e))
      have HOX := Lib.hid (own_keeps hkx HO.out (fun _ _ e => e))
      have HB5 := Lib.hid (HB1.out.keep HSX1.out (fun e => e))
      have HGX : Hid (g < X) := Lib.hid (by rw [← hX]; exact (HO.out.lt g rfl).2)
      have HXL : Hid (w1.heap.size ≤ X) := Lib.hid (by rw [← hX]; exact HS.out.size)
      have HWX := Lib.hid hwx
      have HXB := Lib.hid hX
      have hjn : (j : Int) < (n : Int) := by omega
      obtain ⟨xn, xv⟩ : wx.cell? ⟨X, 0, none⟩ = some (.int .i64 x.node) ∧ wx.cell? ⟨X, 1, none⟩ = some (.int .u64 x.view) := whole_two HX.out
      obtain ⟨vn, vv⟩ : wx.cell? ⟨B, 0, none⟩ = some (.int .i64 v.node) ∧ wx.cell? ⟨B, 1, none⟩ = some (.int .u64 v.view) := whole_two HB5.out
      clear hra hwx hX hkx hjl
      cases b with
      | false =>
        by_cases hlt2 : v.node < x.node
        · have hne : ¬ x.node = v.node := by omega
          have HV4 : Hid (VotesAt (wx.alloc (.cells v.cells.toArray 31)) (some ⟨wx.heap.size, 0, none⟩) [v]) := Lib.hid (votes_row (t := 31) (fun u hu => by simp at hu; subst hu; exact HVH.out) (by simpa using (show Whole _ _ _ _ from heap_alloc_new wx (.cells v.cells.toArray 31))))
          obtain ⟨g4, c4, w4, hrun4, hown4, hg4⟩ := append_votes (wx.alloc (.cells v.cells.toArray 31)) w1.heap.size g c k [v] (some ⟨wx.heap.size, 0, none⟩) 1 HKH.out (fun u hu => by simp at hu; subst hu; exact HVH.out) (own_keeps ((Keeps.refl (fun _ => False) wx).alloc _) HOX.out (fun _ _ e => e)) HV4.out (by have := HKL.out; simp; omega) (by have := HSX1.out.size; simp; omega)
          have hk4 : Same w1 w4 := (HSX1.out.alloc _).grown hg4 (fun q e1 e2 => by simp only [Option.some.injEq] at e1; have := (HOX.out.lt g rfl).1; omega)
          simp only [List.length_append, List.length_cons, List.length_nil, Nat.zero_add] at hrun4
          obtain ⟨wa4, hwa4⟩ : ∃ wa, wx.alloc (.cells v.cells.toArray 31) = wa := ⟨_, rfl⟩
          rw [hwa4] at hrun4
          have HWA4 := Lib.hid hwa4
          have HRUN4 := Lib.hid hrun4
          have HOW4 := Lib.hid hown4
          have HK4 := Lib.hid hk4
          have HG4 := Lib.hid hg4
          clear hwa4 hrun4 hown4 hk4 hg4
          have HX4 : Hid (Whole w4 X 31 x.cells) := Lib.hid ((HG4.out.block X (by have := HX.out.lt; simp; omega) (fun e => by simp only [Option.some.injEq] at e; have := HGX.out; omega)).trans (Whole.keep HX.out ((Keeps.refl (fun _ => False) wx).alloc _) (fun e => e)))
          have HB4 : Hid (Whole w4 B 31 v.cells) := Lib.hid (HB1.out.keep HK4.out (fun e => e))
          obtain ⟨xn4, xv4⟩ : w4.cell? ⟨X, 0, none⟩ = some (.int .i64 x.node) ∧ w4.cell? ⟨X, 1, none⟩ = some (.int .u64 x.view) := whole_two HX4.out
          obtain ⟨vn4, vv4⟩ : w4.cell? ⟨B, 0, none⟩ = some (.int .i64 v.node) ∧ w4.cell? ⟨B, 1, none⟩ = some (.int .u64 v.view) := whole_two HB4.out
          have HKH2 : Hid (∀ u ∈ k ++ [v], u.head.length = 32) := Lib.hid (fun u hu => by rcases List.mem_append.1 hu with h | h; exact HKH.out u h; simp at h; subst h; exact HVH.out)
          have HV6 : Hid (VotesAt (w4.alloc (.cells x.cells.toArray 31)) (some ⟨w4.heap.size, 0, none⟩) [x]) := Lib.hid (votes_row (t := 31) (fun u hu => by simp at hu; subst hu; exact HXH.out) (by simpa using (show Whole _ _ _ _ from heap_alloc_new w4 (.cells x.cells.toArray 31))))
          obtain ⟨g6, c6, w6, hrun6, hown6, hg6⟩ := append_votes (w4.alloc (.cells x.cells.toArray 31)) w1.heap.size g4 c4 (k ++ [v]) [x] (some ⟨w4.heap.size, 0, none⟩) 1 HKH2.out (fun u hu => by simp at hu; subst hu; exact HXH.out) (own_keeps ((Keeps.refl (fun _ => False) w4).alloc _) HOW4.out (fun _ _ e => e)) HV6.out (by have := HKL.out; simp only [List.length_append, List.length_cons, List.length_nil]; omega) (by have := HK4.out.size; simp; omega)
          have hk6 : Same w1 w6 := (HK4.out.alloc _).grown hg6 (fun q e1 e2 => by simp only [Option.some.injEq] at e1; have := (HOW4.out.lt g4 rfl).1; omega)
          simp only [List.length_append, List.length_cons, List.length_nil, Nat.zero_add] at hrun6
          obtain ⟨wa6, hwa6⟩ : ∃ wa, w4.alloc (.cells x.cells.toArray 31) = wa := ⟨_, rfl⟩
          rw [hwa6] at hrun6
          have HWA6 := Lib.hid hwa6
          have HRUN6 := Lib.hid hrun6
          have HOW6 := Lib.hid hown6
          have HK6 := Lib.hid hk6
          have HG6 := Lib.hid hg6
          clear hwa6 hrun6 hown6 hk6 hg6
          have HSTP : Hid (refStep VoteX.node mgV v (k, false) x = (k ++ [v] ++ [x], true)) := Lib.hid (by rw [refStep, if_neg hne, if_pos ⟨rfl, hlt2⟩]; simp [hlt2])
          have t1 : (x.node == v.node) = false := by simpa using hne
          go_wp2_with (first
            | (refine wpList_load_mid (by rfl) 31 (.tmp 18) (by rfl) go (off + j * 37) (by rfl) x.cells _ HRA.out Try.underlying31 rfl HSL.out ?_)
            | (refine wpList_store_row (by rfl) 31 (.tmp 8) (.tmp 19) (by rfl) wr.heap.size x.cells.toArray (by rfl) (by rfl) 31 vote0.cells.toArray HN5.out HSX.out HSE.out HALX.out ?_; rw [HWX.out, HXB.out])
            | (refine wpList_load_row_w (by rfl) 31 (.tmp 3) (by rfl) B (by rfl) 31 v.cells.toArray (0, 0) _ HB5.out Try.underlying31 rfl HSV.out ?_)
            | (refine wpList_buildOne (by rfl) 27 31 (.tmp 30) (by rfl) v.cells.toArray ie _ (by rfl) Try.underlying27 hie HZ.out (by rw [hz1, HCLV.out]) (by rw [HCLV.out]; omega) (by rw [HCLV.out]; omega) ?_; rw [HWA4.out])
            | (at_builtin; refine wpList_append_run (by rfl) (.tmp 29) (.tmp 31) 27 (by rfl) _ _ _ w4 (by rfl) (by rfl) (by exact HRUN4.out) ?_)
            | (refine wpList_load_row_w (by rfl) 31 (.tmp 8) (by rfl) X (by rfl) 31 x.cells.toArray (0, 0) _ HX4.out Try.underlying31 rfl HSX.out ?_)
            | (refine wpList_buildOne (by rfl) 27 31 (.tmp 45) (by rfl) x.cells.toArray ie _ (by rfl) Try.underlying27 hie HZ.out (by rw [hz1, HCLX.out]) (by rw [HCLX.out]; omega) (by rw [HCLX.out]; omega) ?_; rw [HWA6.out])
            | (at_builtin; refine wpList_append_run (by rfl) (.tmp 44) (.tmp 46) 27 (by rfl) _ _ _ w6 (by rfl) (by rfl) (by exact HRUN6.out) ?_))
          go_roundw
          case rel => exact ⟨j + 1, by omega, by go_num, g6, c6, k ++ [v] ++ [x], true, Lib.hid (by rw [HTK.out, HSTP.out]), by simp only [List.length_append]; rfl, by rfl, HOW6, HK6⟩
          case measure => simp [intOf]; omega
        · have hno := hlt2
          by_cases heq : x.node = v.node
          · by_cases hge : x.view ≤ v.view
            · skip
              obtain ⟨wy, hwy⟩ : ∃ wy, wx.setRow X v.cells.toArray = wy := ⟨_, rfl⟩
              have HWY := Lib.hid hwy
              have HY : Hid (Whole wy X 31 v.cells) := Lib.hid (by rw [← hwy]; exact Whole.row HX.out)
              have HOY : Hid (wy.ownsRow w1.heap.size 31 37 (.slice (some ⟨g, 0, none⟩) k.length c) k.length (k.flatMap VoteX.cells)) := Lib.hid (by rw [← hwy]; exact own_keeps ((Keeps.refl (fun q => q = X) _).setRow _ _ (.inr rfl)) HOX.out (fun q e => by simp only [Value.ownBlock, Option.some.injEq] at e; have := HGX.out; omega))
              have HSY1 : Hid (Same w1 wy) := Lib.hid (by rw [← hwy]; exact HSX1.out.setRow _ _ (.inl HXL.out))
              clear hwy
              have HV4 : Hid (VotesAt (wy.alloc (.cells v.cells.toArray 31)) (some ⟨wy.heap.size, 0, none⟩) [v]) := Lib.hid (votes_row (t := 31) (fun u hu => by simp at hu; subst hu; exact HVH.out) (by simpa using (show Whole _ _ _ _ from heap_alloc_new wy (.cells v.cells.toArray 31))))
              obtain ⟨g4, c4, w4, hrun4, hown4, hg4⟩ := append_votes (wy.alloc (.cells v.cells.toArray 31)) w1.heap.size g c k [v] (some ⟨wy.heap.size, 0, none⟩) 1 HKH.out (fun u hu => by simp at hu; subst hu; exact HVH.out) (own_keeps ((Keeps.refl (fun _ => False) wy).alloc _) HOY.out (fun _ _ e => e)) HV4.out (by have := HKL.out; simp; omega) (by have := HSY1.out.size; simp; omega)
              have hk4 : Same w1 w4 := (HSY1.out.alloc _).grown hg4 (fun q e1 e2 => by simp only [Option.some.injEq] at e1; have := (HOY.out.lt g rfl).1; omega)
              simp only [List.length_append, List.length_cons, List.length_nil, Nat.zero_add] at hrun4
              obtain ⟨wa4, hwa4⟩ : ∃ wa, wy.alloc (.cells v.cells.toArray 31) = wa := ⟨_, rfl⟩
              rw [hwa4] at hrun4
              have HWA4 := Lib.hid hwa4
              have HRUN4 := Lib.hid hrun4
              have HOW4 := Lib.hid hown4
              have HK4 := Lib.hid hk4
              have HG4 := Lib.hid hg4
              clear hwa4 hrun4 hown4 hk4 hg4
              have HSTP : Hid (refStep VoteX.node mgV v (k, false) x = (k ++ [v], true)) := Lib.hid (by rw [refStep, if_pos heq, if_neg (fun h => by omega)]; unfold mgV; rw [if_pos hge])
              rw [heq] at xn
              go_wp2_with (first
                | (refine wpList_load_mid (by rfl) 31 (.tmp 18) (by rfl) go (off + j * 37) (by rfl) x.cells _ HRA.out Try.underlying31 rfl HSL.out ?_)
                | (refine wpList_store_row (by rfl) 31 (.tmp 8) (.tmp 19) (by rfl) wr.heap.size x.cells.toArray (by rfl) (by rfl) 31 vote0.cells.toArray HN5.out HSX.out HSE.out HALX.out ?_; rw [HWX.out, HXB.out])
                | (refine wpList_load_row_w (by rfl) 31 (.tmp 3) (by rfl) B (by rfl) 31 v.cells.toArray (0, 0) _ HB5.out Try.underlying31 rfl HSV.out ?_)
                | (refine wpList_store_row (by rfl) 31 (.tmp 8) (.tmp 43) (by rfl) X v.cells.toArray (by rfl) (by rfl) 31 x.cells.toArray HX.out HSV.out HSXV.out HALV.out ?_; rw [HWY.out])
                | (refine wpList_load_row_w (by rfl) 31 (.tmp 8) (by rfl) X (by rfl) 31 v.cells.toArray (0, 0) _ HY.out Try.underlying31 rfl HSV.out ?_)
                | (refine wpList_buildOne (by rfl) 27 31 (.tmp 45) (by rfl) v.cells.toArray ie _ (by rfl) Try.underlying27 hie HZ.out (by rw [hz1, HCLV.out]) (by rw [HCLV.out]; omega) (by rw [HCLV.out]; omega) ?_; rw [HWA4.out])
                | (at_builtin; refine wpList_append_run (by rfl) (.tmp 44) (.tmp 46) 27 (by rfl) _ _ _ w4 (by rfl) (by rfl) (by exact HRUN4.out) ?_))
              go_roundw
              case rel => exact ⟨j + 1, by omega, by go_num, g4, c4, k ++ [v], true, Lib.hid (by rw [HTK.out, HSTP.out]), by simp only [List.length_append]; rfl, by rfl, HOW4, HK4⟩
              case measure => simp [intOf]; omega
            · skip
              have HV4 : Hid (VotesAt (wx.alloc (.cells x.cells.toArray 31)) (some ⟨wx.heap.size, 0, none⟩) [x]) := Lib.hid (votes_row (t := 31) (fun u hu => by simp at hu; subst hu; exact HXH.out) (by simpa using (show Whole _ _ _ _ from heap_alloc_new wx (.cells x.cells.toArray 31))))
              obtain ⟨g4, c4, w4, hrun4, hown4, hg4⟩ := append_votes (wx.alloc (.cells x.cells.toArray 31)) w1.heap.size g c k [x] (some ⟨wx.heap.size, 0, none⟩) 1 HKH.out (fun u hu => by simp at hu; subst hu; exact HXH.out) (own_keeps ((Keeps.refl (fun _ => False) wx).alloc _) HOX.out (fun _ _ e => e)) HV4.out (by have := HKL.out; simp; omega) (by have := HSX1.out.size; simp; omega)
              have hk4 : Same w1 w4 := (HSX1.out.alloc _).grown hg4 (fun q e1 e2 => by simp only [Option.some.injEq] at e1; have := (HOX.out.lt g rfl).1; omega)
              simp only [List.length_append, List.length_cons, List.length_nil, Nat.zero_add] at hrun4
              obtain ⟨wa4, hwa4⟩ : ∃ wa, wx.alloc (.cells x.cells.toArray 31) = wa := ⟨_, rfl⟩
              rw [hwa4] at hrun4
              have HWA4 := Lib.hid hwa4
              have HRUN4 := Lib.hid hrun4
              have HOW4 := Lib.hid hown4
              have HK4 := Lib.hid hk4
              have HG4 := Lib.hid hg4
              clear hwa4 hrun4 hown4 hk4 hg4
              have HSTP : Hid (refStep VoteX.node mgV v (k, false) x = (k ++ [x], true)) := Lib.hid (by rw [refStep, if_pos heq, if_neg (fun h => by omega)]; unfold mgV; rw [if_neg hge])
              rw [heq] at xn
              go_wp2_with (first
                | (refine wpList_load_mid (by rfl) 31 (.tmp 18) (by rfl) go (off + j * 37) (by rfl) x.cells _ HRA.out Try.underlying31 rfl HSL.out ?_)
                | (refine wpList_store_row (by rfl) 31 (.tmp 8) (.tmp 19) (by rfl) wr.heap.size x.cells.toArray (by rfl) (by rfl) 31 vote0.cells.toArray HN5.out HSX.out HSE.out HALX.out ?_; rw [HWX.out, HXB.out])
                | (refine wpList_load_row_w (by rfl) 31 (.tmp 8) (by rfl) X (by rfl) 31 x.cells.toArray (0, 0) _ HX.out Try.underlying31 rfl HSX.out ?_)
                | (refine wpList_buildOne (by rfl) 27 31 (.tmp 45) (by rfl) x.cells.toArray ie _ (by rfl) Try.underlying27 hie HZ.out (by rw [hz1, HCLX.out]) (by rw [HCLX.out]; omega) (by rw [HCLX.out]; omega) ?_; rw [HWA4.out])
                | (at_builtin; refine wpList_append_run (by rfl) (.tmp 44) (.tmp 46) 27 (by rfl) _ _ _ w4 (by rfl) (by rfl) (by exact HRUN4.out) ?_))
              go_roundw
              case rel => exact ⟨j + 1, by omega, by go_num, g4, c4, k ++ [x], true, Lib.hid (by rw [HTK.out, HSTP.out]), by simp only [List.length_append]; rfl, by rfl, HOW4, HK4⟩
              case measure => simp [intOf]; omega
          · have hne := heq
            have HV4 : Hid (VotesAt (wx.alloc (.cells x.cells.toArray 31)) (some ⟨wx.heap.size, 0, none⟩) [x]) := Lib.hid (votes_row (t := 31) (fun u hu => by simp at hu; subst hu; exact HXH.out) (by simpa using (show Whole _ _ _ _ from heap_alloc_new wx (.cells x.cells.toArray 31))))
            obtain ⟨g4, c4, w4, hrun4, hown4, hg4⟩ := append_votes (wx.alloc (.cells x.cells.toArray 31)) w1.heap.size g c k [x] (some ⟨wx.heap.size, 0, none⟩) 1 HKH.out (fun u hu => by simp at hu; subst hu; exact HXH.out) (own_keeps ((Keeps.refl (fun _ => False) wx).alloc _) HOX.out (fun _ _ e => e)) HV4.out (by have := HKL.out; simp; omega) (by have := HSX1.out.size; simp; omega)
            have hk4 : Same w1 w4 := (HSX1.out.alloc _).grown hg4 (fun q e1 e2 => by simp only [Option.some.injEq] at e1; have := (HOX.out.lt g rfl).1; omega)
            simp only [List.length_append, List.length_cons, List.length_nil, Nat.zero_add] at hrun4
            obtain ⟨wa4, hwa4⟩ : ∃ wa, wx.alloc (.cells x.cells.toArray 31) = wa := ⟨_, rfl⟩
            rw [hwa4] at hrun4
            have HWA4 := Lib.hid hwa4
            have HRUN4 := Lib.hid hrun4
            have HOW4 := Lib.hid hown4
            have HK4 := Lib.hid hk4
            have HG4 := Lib.hid hg4
            clear hwa4 hrun4 hown4 hk4 hg4
            have HSTP : Hid (refStep VoteX.node mgV v (k, false) x = (k ++ [x], false)) := Lib.hid (by rw [refStep, if_neg hne, if_neg (fun h => hno h.2)]; simp [hno])
            have t1 : (x.node == v.node) = false := by simpa using hne
            go_wp2_with (first
              | (refine wpList_load_mid (by rfl) 31 (.tmp 18) (by rfl) go (off + j * 37) (by rfl) x.cells _ HRA.out Try.underlying31 rfl HSL.out ?_)
              | (refine wpList_store_row (by rfl) 31 (.tmp 8) (.tmp 19) (by rfl) wr.heap.size x.cells.toArray (by rfl) (by rfl) 31 vote0.cells.toArray HN5.out HSX.out HSE.out HALX.out ?_; rw [HWX.out, HXB.out])
              | (refine wpList_load_row_w (by rfl) 31 (.tmp 8) (by rfl) X (by rfl) 31 x.cells.toArray (0, 0) _ HX.out Try.underlying31 rfl HSX.out ?_)
              | (refine wpList_buildOne (by rfl) 27 31 (.tmp 45) (by rfl) x.cells.toArray ie _ (by rfl) Try.underlying27 hie HZ.out (by rw [hz1, HCLX.out]) (by rw [HCLX.out]; omega) (by rw [HCLX.out]; omega) ?_; rw [HWA4.out])
              | (at_builtin; refine wpList_append_run (by rfl) (.tmp 44) (.tmp 46) 27 (by rfl) _ _ _ w4 (by rfl) (by rfl) (by exact HRUN4.out) ?_))
            go_roundw
            case rel => exact ⟨j + 1, by omega, by go_num, g4, c4, k ++ [x], false, Lib.hid (by rw [HTK.out, HSTP.out]), by simp only [List.length_append]; rfl, by rfl, HOW4, HK4⟩
            case measure => simp [intOf]; omega
      | true =>
        by_cases heq : x.node = v.node
        · by_cases hge : x.view ≤ v.view
          · skip
            obtain ⟨wy, hwy⟩ : ∃ wy, wx.setRow X v.cells.toArray = wy := ⟨_, rfl⟩
            have HWY := Lib.hid hwy
            have HY : Hid (Whole wy X 31 v.cells) := Lib.hid (by rw [← hwy]; exact Whole.row HX.out)
            have HOY : Hid (wy.ownsRow w1.heap.size 31 37 (.slice (some ⟨g, 0, none⟩) k.length c) k.length (k.flatMap VoteX.cells)) := Lib.hid (by rw [← hwy]; exact own_keeps ((Keeps.refl (fun q => q = X) _).setRow _ _ (.inr rfl)) HOX.out (fun q e => by simp only [Value.ownBlock, Option.some.injEq] at e; have := HGX.out; omega))
            have HSY1 : Hid (Same w1 wy) := Lib.hid (by rw [← hwy]; exact HSX1.out.setRow _ _ (.inl HXL.out))
            clear hwy
            have HV4 : Hid (VotesAt (wy.alloc (.cells v.cells.toArray 31)) (some ⟨wy.heap.size, 0, none⟩) [v]) := Lib.hid (votes_row (t := 31) (fun u hu => by simp at hu; subst hu; exact HVH.out) (by simpa using (show Whole _ _ _ _ from heap_alloc_new wy (.cells v.cells.toArray 31))))
            obtain ⟨g4, c4, w4, hrun4, hown4, hg4⟩ := append_votes (wy.alloc (.cells v.cells.toArray 31)) w1.heap.size g c k [v] (some ⟨wy.heap.size, 0, none⟩) 1 HKH.out (fun u hu => by simp at hu; subst hu; exact HVH.out) (own_keeps ((Keeps.refl (fun _ => False) wy).alloc _) HOY.out (fun _ _ e => e)) HV4.out (by have := HKL.out; simp; omega) (by have := HSY1.out.size; simp; omega)
            have hk4 : Same w1 w4 := (HSY1.out.alloc _).grown hg4 (fun q e1 e2 => by simp only [Option.some.injEq] at e1; have := (HOY.out.lt g rfl).1; omega)
            simp only [List.length_append, List.length_cons, List.length_nil, Nat.zero_add] at hrun4
            obtain ⟨wa4, hwa4⟩ : ∃ wa, wy.alloc (.cells v.cells.toArray 31) = wa := ⟨_, rfl⟩
            rw [hwa4] at hrun4
            have HWA4 := Lib.hid hwa4
            have HRUN4 := Lib.hid hrun4
            have HOW4 := Lib.hid hown4
            have HK4 := Lib.hid hk4
            have HG4 := Lib.hid hg4
            clear hwa4 hrun4 hown4 hk4 hg4
            have HSTP : Hid (refStep VoteX.node mgV v (k, true) x = (k ++ [v], true)) := Lib.hid (by rw [refStep, if_pos heq, if_neg (fun h => by simp at h)]; unfold mgV; rw [if_pos hge])
            rw [heq] at xn
            go_wp2_with (first
              | (refine wpList_load_mid (by rfl) 31 (.tmp 18) (by rfl) go (off + j * 37) (by rfl) x.cells _ HRA.out Try.underlying31 rfl HSL.out ?_)
              | (refine wpList_store_row (by rfl) 31 (.tmp 8) (.tmp 19) (by rfl) wr.heap.size x.cells.toArray (by rfl) (by rfl) 31 vote0.cells.toArray HN5.out HSX.out HSE.out HALX.out ?_; rw [HWX.out, HXB.out])
              | (refine wpList_load_row_w (by rfl) 31 (.tmp 3) (by rfl) B (by rfl) 31 v.cells.toArray (0, 0) _ HB5.out Try.underlying31 rfl HSV.out ?_)
              | (refine wpList_store_row (by rfl) 31 (.tmp 8) (.tmp 43) (by rfl) X v.cells.toArray (by rfl) (by rfl) 31 x.cells.toArray HX.out HSV.out HSXV.out HALV.out ?_; rw [HWY.out])
              | (refine wpList_load_row_w (by rfl) 31 (.tmp 8) (by rfl) X (by rfl) 31 v.cells.toArray (0, 0) _ HY.out Try.underlying31 rfl HSV.out ?_)
              | (refine wpList_buildOne (by rfl) 27 31 (.tmp 45) (by rfl) v.cells.toArray ie _ (by rfl) Try.underlying27 hie HZ.out (by rw [hz1, HCLV.out]) (by rw [HCLV.out]; omega) (by rw [HCLV.out]; omega) ?_; rw [HWA4.out])
              | (at_builtin; refine wpList_append_run (by rfl) (.tmp 44) (.tmp 46) 27 (by rfl) _ _ _ w4 (by rfl) (by rfl) (by exact HRUN4.out) ?_)
              | (refine wpList_skip (by rfl) ?_))
            go_roundw
            case rel => exact ⟨j + 1, by omega, by go_num, g4, c4, k ++ [v], true, Lib.hid (by rw [HTK.out, HSTP.out]), by simp only [List.length_append]; rfl, by rfl, HOW4, HK4⟩
            case measure => simp [intOf]; omega
          · skip
            have HV4 : Hid (VotesAt (wx.alloc (.cells x.cells.toArray 31)) (some ⟨wx.heap.size, 0, none⟩) [x]) := Lib.hid (votes_row (t := 31) (fun u hu => by simp at hu; subst hu; exact HXH.out) (by simpa using (show Whole _ _ _ _ from heap_alloc_new wx (.cells x.cells.toArray 31))))
            obtain ⟨g4, c4, w4, hrun4, hown4, hg4⟩ := append_votes (wx.alloc (.cells x.cells.toArray 31)) w1.heap.size g c k [x] (some ⟨wx.heap.size, 0, none⟩) 1 HKH.out (fun u hu => by simp at hu; subst hu; exact HXH.out) (own_keeps ((Keeps.refl (fun _ => False) wx).alloc _) HOX.out (fun _ _ e => e)) HV4.out (by have := HKL.out; simp; omega) (by have := HSX1.out.size; simp; omega)
            have hk4 : Same w1 w4 := (HSX1.out.alloc _).grown hg4 (fun q e1 e2 => by simp only [Option.some.injEq] at e1; have := (HOX.out.lt g rfl).1; omega)
            simp only [List.length_append, List.length_cons, List.length_nil, Nat.zero_add] at hrun4
            obtain ⟨wa4, hwa4⟩ : ∃ wa, wx.alloc (.cells x.cells.toArray 31) = wa := ⟨_, rfl⟩
            rw [hwa4] at hrun4
            have HWA4 := Lib.hid hwa4
            have HRUN4 := Lib.hid hrun4
            have HOW4 := Lib.hid hown4
            have HK4 := Lib.hid hk4
            have HG4 := Lib.hid hg4
            clear hwa4 hrun4 hown4 hk4 hg4
            have HSTP : Hid (refStep VoteX.node mgV v (k, true) x = (k ++ [x], true)) := Lib.hid (by rw [refStep, if_pos heq, if_neg (fun h => by simp at h)]; unfold mgV; rw [if_neg hge])
            rw [heq] at xn
            go_wp2_with (first
              | (refine wpList_load_mid (by rfl) 31 (.tmp 18) (by rfl) go (off + j * 37) (by rfl) x.cells _ HRA.out Try.underlying31 rfl HSL.out ?_)
              | (refine wpList_store_row (by rfl) 31 (.tmp 8) (.tmp 19) (by rfl) wr.heap.size x.cells.toArray (by rfl) (by rfl) 31 vote0.cells.toArray HN5.out HSX.out HSE.out HALX.out ?_; rw [HWX.out, HXB.out])
              | (refine wpList_load_row_w (by rfl) 31 (.tmp 8) (by rfl) X (by rfl) 31 x.cells.toArray (0, 0) _ HX.out Try.underlying31 rfl HSX.out ?_)
              | (refine wpList_buildOne (by rfl) 27 31 (.tmp 45) (by rfl) x.cells.toArray ie _ (by rfl) Try.underlying27 hie HZ.out (by rw [hz1, HCLX.out]) (by rw [HCLX.out]; omega) (by rw [HCLX.out]; omega) ?_; rw [HWA4.out])
              | (at_builtin; refine wpList_append_run (by rfl) (.tmp 44) (.tmp 46) 27 (by rfl) _ _ _ w4 (by rfl) (by rfl) (by exact HRUN4.out) ?_)
              | (refine wpList_skip (by rfl) ?_))
            go_roundw
            case rel => exact ⟨j + 1, by omega, by go_num, g4, c4, k ++ [x], true, Lib.hid (by rw [HTK.out, HSTP.out]), by simp only [List.length_append]; rfl, by rfl, HOW4, HK4⟩
            case measure => simp [intOf]; omega
        · have hne := heq
          have HV4 : Hid (VotesAt (wx.alloc (.cells x.cells.toArray 31)) (some ⟨wx.heap.size, 0, none⟩) [x]) := Lib.hid (votes_row (t := 31) (fun u hu => by simp at hu; subst hu; exact HXH.out) (by simpa using (show Whole _ _ _ _ from heap_alloc_new wx (.cells x.cells.toArray 31))))
          obtain ⟨g4, c4, w4, hrun4, hown4, hg4⟩ := append_votes (wx.alloc (.cells x.cells.toArray 31)) w1.heap.size g c k [x] (some ⟨wx.heap.size, 0, none⟩) 1 HKH.out (fun u hu => by simp at hu; subst hu; exact HXH.out) (own_keeps ((Keeps.refl (fun _ => False) wx).alloc _) HOX.out (fun _ _ e => e)) HV4.out (by have := HKL.out; simp; omega) (by have := HSX1.out.size; simp; omega)
          have hk4 : Same w1 w4 := (HSX1.out.alloc _).grown hg4 (fun q e1 e2 => by simp only [Option.some.injEq] at e1; have := (HOX.out.lt g rfl).1; omega)
          simp only [List.length_append, List.length_cons, List.length_nil, Nat.zero_add] at hrun4
          obtain ⟨wa4, hwa4⟩ : ∃ wa, wx.alloc (.cells x.cells.toArray 31) = wa := ⟨_, rfl⟩
          rw [hwa4] at hrun4
          have HWA4 := Lib.hid hwa4
          have HRUN4 := Lib.hid hrun4
          have HOW4 := Lib.hid hown4
          have HK4 := Lib.hid hk4
          have HG4 := Lib.hid hg4
          clear hwa4 hrun4 hown4 hk4 hg4
          have HSTP : Hid (refStep VoteX.node mgV v (k, true) x = (k ++ [x], true)) := Lib.hid (by rw [refStep, if_neg hne, if_neg (fun h => by simp at h)]; simp)
          have t1 : (x.node == v.node) = false := by simpa using hne
          go_wp2_with (first
            | (refine wpList_load_mid (by rfl) 31 (.tmp 18) (by rfl) go (off + j * 37) (by rfl) x.cells _ HRA.out Try.underlying31 rfl HSL.out ?_)
            | (refine wpList_store_row (by rfl) 31 (.tmp 8) (.tmp 19) (by rfl) wr.heap.size x.cells.toArray (by rfl) (by rfl) 31 vote0.cells.toArray HN5.out HSX.out HSE.out HALX.out ?_; rw [HWX.out, HXB.out])
            | (refine wpList_load_row_w (by rfl) 31 (.tmp 8) (by rfl) X (by rfl) 31 x.cells.toArray (0, 0) _ HX.out Try.underlying31 rfl HSX.out ?_)
            | (refine wpList_buildOne (by rfl) 27 31 (.tmp 45) (by rfl) x.cells.toArray ie _ (by rfl) Try.underlying27 hie HZ.out (by rw [hz1, HCLX.out]) (by rw [HCLX.out]; omega) (by rw [HCLX.out]; omega) ?_; rw [HWA4.out])
            | (at_builtin; refine wpList_append_run (by rfl) (.tmp 44) (.tmp 46) 27 (by rfl) _ _ _ w4 (by rfl) (by rfl) (by exact HRUN4.out) ?_)
            | (refine wpList_skip (by rfl) ?_))
          go_roundw
          case rel => exact ⟨j + 1, by omega, by go_num, g4, c4, k ++ [x], true, Lib.hid (by rw [HTK.out, HSTP.out]), by simp only [List.length_append]; rfl, by rfl, HOW4, HK4⟩
          case measure => simp [intOf]; omega
    · obtain rfl : j = n := by omega
      have hjn : ¬ (j : Int) < (j : Int) := by omega
      have HFI : Hid (ads = if b then k else k ++ [v]) := Lib.hid (by
        have h1 := HF.out
        rw [List.take_of_length_le (by rw [HN.out]; exact Nat.le_refl _)] at h1
        rw [← HAS.out]; unfold refAddK; rw [h1])
      cases b with
      | true =>
        rw [if_pos rfl] at HFI
        go_wp2
        go_ret
        refine ⟨g, c, ?_, ?_, HWR.out⟩
        · rw [HFI.out]; rfl
        · rw [HFI.out]; exact votes_own HKH.out HO.out
      | false =>
        rw [if_neg (by simp)] at HFI
        have HV4 : Hid (VotesAt (wr.alloc (.cells v.cells.toArray 31)) (some ⟨wr.heap.size, 0, none⟩) [v]) := Lib.hid (votes_row (t := 31) (fun u hu => by simp at hu; subst hu; exact HVH.out) (by simpa using (show Whole _ _ _ _ from heap_alloc_new wr (.cells v.cells.toArray 31))))
        obtain ⟨g4, c4, w4, hrun4, hown4, hg4⟩ := append_votes (wr.alloc (.cells v.cells.toArray 31)) w1.heap.size g c k [v] (some ⟨wr.heap.size, 0, none⟩) 1 HKH.out (fun u hu => by simp at hu; subst hu; exact HVH.out) (own_keeps ((Keeps.refl (fun _ => False) wr).alloc _) HO.out (fun _ _ e => e)) HV4.out (by have := HKL.out; simp; omega) (by have := HS.out.size; simp; omega)
        have hk4 : Same w1 w4 := (HS.out.alloc _).grown hg4 (fun q e1 e2 => by simp only [Option.some.injEq] at e1; have := (HO.out.lt g rfl).1; omega)
        simp only [List.length_append, List.length_cons, List.length_nil, Nat.zero_add] at hrun4
        obtain ⟨wa4, hwa4⟩ : ∃ wa, wr.alloc (.cells v.cells.toArray 31) = wa := ⟨_, rfl⟩
        rw [hwa4] at hrun4
        have HWA4 := Lib.hid hwa4
        have HRUN4 := Lib.hid hrun4
        have HOW4 := Lib.hid hown4
        have HK4 := Lib.hid hk4
        have HG4 := Lib.hid hg4
        clear hwa4 hrun4 hown4 hk4 hg4
        have HB5 := Lib.hid (HB1.out.keep HS.out (fun e => e))
        go_wp2_with (first
          | (refine wpList_load_row_w (by rfl) 31 (.tmp 3) (by rfl) B (by rfl) 31 v.cells.toArray (0, 0) _ HB5.out Try.underlying31 rfl HSV.out ?_)
          | (refine wpList_buildOne (by rfl) 27 31 (.tmp 51) (by rfl) v.cells.toArray ie _ (by rfl) Try.underlying27 hie HZ.out (by rw [hz1, HCLV.out]) (by rw [HCLV.out]; omega) (by rw [HCLV.out]; omega) ?_; rw [HWA4.out])
          | (at_builtin; refine wpList_append_run (by rfl) (.tmp 50) (.tmp 52) 27 (by rfl) _ _ _ w4 (by rfl) (by rfl) (by exact HRUN4.out) ?_))
        go_ret
        refine ⟨g4, c4, ?_, ?_, HW1.out.trans HK4.out (fun _ _ e => e)⟩
        · rw [HFI.out]; simp only [List.length_append]; rfl
        · rw [HFI.out]; exact votes_own (fun u hu => by rcases List.mem_append.1 hu with h | h; exact HKH.out u h; simp at h; subst h; exact HVH.out) HOW4.out
end Go.Proofs.Yteidjpnmfmcfkaa
