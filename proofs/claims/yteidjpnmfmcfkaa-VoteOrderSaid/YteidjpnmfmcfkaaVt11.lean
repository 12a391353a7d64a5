/- The walk of VoteOrder. -/
import Derived.Test.YteidjpnmfmcfkaaVt9
import Derived.Test.YteidjpnmfmcfkaaVt10
import Derived.Test.YteidjpnmfmcfkaaRw
import Derived.Test.YteidjpnmfmcfkaaSk
namespace Go.Proofs.Yteidjpnmfmcfkaa
open Go.RowKit
set_option linter.unusedVariables false

theorem chOf_rev (view nodes : Int) (vs : List VoteX) (hv : ∀ v ∈ vs, 0 ≤ v.commit) : chOf view nodes vs.reverse = chOf view nodes vs := by
  obtain ⟨e1, e2, e3⟩ := chosen_same (chosen_all view vs.reverse (fun v h => hv v (by simpa using h))) (chosen_all view vs hv) (fun y => by simp)
  unfold chOf
  rw [e3, e2]
  unfold CS.row
  rw [e1]
theorem maj_pos (n : Int) : 1 ≤ maj n := by unfold maj; split <;> omega
theorem order_fact {view nodes d : Int} {vs : List VoteX} {x : VoteX} (hh : ∀ v ∈ vs, v.head.length = 32) (hv : ∀ v ∈ vs, 0 ≤ v.commit) (h : chOf view nodes vs = (x, d, true)) : ∀ y ∈ vs, y.view = view → ¬ x.normal < y.normal ∧ (y.normal = x.normal → ¬ x.gen < y.gen) ∧ ¬ d < y.commit := by
  intro y hy hyv
  have hc := chosen_all view vs hv
  have hg := good_of view vs hh vs.length (Nat.le_refl _)
  rw [List.take_length] at hg
  unfold chOf at h
  split at h
  · simp at h
  · rename_i hq
    simp only [Prod.mk.injEq, and_true] at h
    obtain ⟨hx, hd⟩ := h
    have hne : (csOf view vs).nodes ≠ [] := fun e => by
      rw [e] at hq
      have := maj_pos nodes
      simp at hq
      omega
    cases hb : (csOf view vs).best with
    | none => exact absurd (hg.none.1 hb) hne
    | some b =>
      have hxb : b = x := by rw [← hx]; unfold CS.row; rw [hb]; rfl
      subst hxb
      obtain ⟨_, _, b3⟩ := hc.best b hb
      have ha := b3 y hy hyv
      have na : ¬ AboveP y b := fun h => by rw [(above_iff y b).2 h] at ha; simp at ha
      refine ⟨fun k => na (.inl k), fun e k => na (.inr ⟨e, .inl k⟩), ?_⟩
      have := hc.most y hy hyv
      omega

theorem undef_bool (b : Bool) : ¬ (some undef = some (Value.bool b)) := fun h => by simp [undef] at h

set_option maxRecDepth 100000 in
set_option maxHeartbeats 25600000 in
theorem order_any (ao : Option Addr) (n c : Nat) (vs : List VoteX) (view nodes : Int) (w : World) (h : VotesAt w ao vs) (hok : ∀ v ∈ vs, v.ok) (hcp : ∀ v ∈ vs, 0 ≤ v.commit) (hn : vs.length = n) (hnod : -9223372036854775808 ≤ nodes ∧ nodes ≤ 9223372036854775807) :
    Calls Try.prog 6 #[.slice ao n c, .int .u64 view, .int .i64 nodes] w fun e w' => e = .returned (.bool true) ∧ Same w w' := by
  have HV := Lib.hid h
  have HOK := Lib.hid hok
  have HN := Lib.hid hn
  have HD := Lib.hid (fun v hv => (hok v hv).head)
  have HCP := Lib.hid hcp
  have hzv := Try.zeroVote
  clear h hok hn hcp
  go_enter Try.func6, Try.ntmps6
  go_wp2_with fail
  ((with_reducible refine (speaks20 _).mono ?_); rintro e w1 ⟨rfl, hk1⟩)
  have HS1 := Lib.hid hk1
  clear hk1
  by_cases hbig : (50 : Int) < (n : Int)
  · go_wp2
    go_ret
    exact ⟨rfl, HS1.out⟩
  have hn50 : n ≤ 50 := by omega
  have HOW0 := Lib.hid (own_votes0 w1)
  obtain ⟨ie, hie, hz0, hz1, hz2⟩ := info_partsV Try.infoVoteR
  have HZ := Lib.hid hz0
  have HN1 : Hid (Same w1 (w1.alloc (.cells #[] 31))) := Lib.hid ((Keeps.refl _ _).alloc _)
  clear hz0
  go_wp2
  go_loopw [7, 8] (fun tv i wr => ∃ m : Nat, m ≤ n ∧ i = .int .i64 ((m : Int) - 1) ∧ ∃ g cap, tv = .slice (some ⟨g, 0, none⟩) (vs.drop m).reverse.length cap ∧ wr.ownsRow w1.heap.size 31 37 (.slice (some ⟨g, 0, none⟩) (vs.drop m).reverse.length cap) (vs.drop m).reverse.length ((vs.drop m).reverse.flatMap VoteX.cells) ∧ Same w1 wr) (fun _ i _ => (intOf i + 1).toNat)
  case atStart =>
    refine ⟨n, by omega, rfl, w1.heap.size, 0, ?_, ?_, HN1.out⟩
    · rw [List.drop_of_length_le (by rw [HN.out]; exact Nat.le_refl _)]; rfl
    · rw [List.drop_of_length_le (by rw [HN.out]; exact Nat.le_refl _)]; exact HOW0.out
  case round =>
    obtain ⟨m, hm, rfl, g3, c3, rfl, hown, hs⟩ := hrel
    have HOW := Lib.hid hown
    have HS := Lib.hid hs
    have HW := Lib.hid (HS1.out.trans hs (fun _ _ e => e))
    clear hown hs
    cases m with
    | succ m =>
      have hml : m < vs.length := by rw [HN.out]; omega
      obtain ⟨g, off, rfl, hra⟩ := (HV.out.same HW.out).at hml
      have HDR : Hid ((vs.drop m).reverse = (vs.drop (m + 1)).reverse ++ [vs[m]]) := Lib.hid (by rw [List.drop_eq_getElem_cons hml, List.reverse_cons])
      have HVO : Hid vs[m].ok := Lib.hid (HOK.out _ (List.getElem_mem hml))
      generalize vs[m] = v at hra HDR HVO
      have HRA := Lib.hid hra
      have HSL := Lib.hid (size_voteL v HVO.out.head)
      have HCL : Hid (v.cells.toArray.size = 37) := Lib.hid (by rw [List.size_toArray, v.cells_length HVO.out.head])
      have hidx : ((m + 1 : Nat) : Int) - 1 = (m : Int) := by omega
      obtain ⟨k, hk⟩ : ∃ k, (vs.drop (m + 1)).reverse = k := ⟨_, rfl⟩
      rw [hk] at HOW HDR ⊢
      have HKH : Hid (∀ v ∈ k, v.head.length = 32) := Lib.hid (fun v hv => HD.out v (by rw [← hk] at hv; simp at hv; exact List.mem_of_mem_drop hv))
      have HKL : Hid (k.length ≤ 50) := Lib.hid (by rw [← hk]; simp; have := HN.out; omega)
      have HV1 : Hid (VotesAt (wr.alloc (.cells v.cells.toArray 31)) (some ⟨wr.heap.size, 0, none⟩) [v]) := Lib.hid (votes_row (t := 31) (fun u hu => by simp at hu; subst hu; exact HVO.out.head) (by simpa using (show Whole _ _ _ _ from heap_alloc_new wr (.cells v.cells.toArray 31))))
      obtain ⟨g4, c4, w4, hrun, hown4, hg4⟩ := append_votes (wr.alloc (.cells v.cells.toArray 31)) w1.heap.size g3 c3 k [v] (some ⟨wr.heap.size, 0, none⟩) 1 HKH.out (fun u hu => by simp at hu; subst hu; exact HVO.out.head) (own_keeps ((Keeps.refl (fun _ => False) wr).alloc _) HOW.out (fun _ _ e => e)) HV1.out (by have := HKL.out; simp; omega) (by have := HS.out.size; simp; omega)
      have hk4 : Same w1 w4 := (HS.out.alloc _).grown hg4 (fun q e1 e2 => by simp only [Option.some.injEq] at e1; have := (HOW.out.lt g3 rfl).1; omega)
      have HRUN := Lib.hid hrun
      have HOW4 := Lib.hid hown4
      have HK4 := Lib.hid hk4
      have hge : (0 : Int) ≤ (m : Int) ∧ (m : Int) < (n : Int) := by have := HN.out; omega
      rw [hidx]
      clear hra hml hk hrun hown4 hg4 hk4 hidx
      go_wp2_with (first
        | (refine wpList_load_mid (by rfl) 31 _ (by rfl) g (off + m * 37) (by rfl) v.cells _ HRA.out Try.underlying31 rfl HSL.out ?_)
        | (refine wpList_buildOne (by rfl) 27 31 _ (by rfl) v.cells.toArray ie _ (by rfl) Try.underlying27 hie HZ.out (by rw [hz1, HCL.out]) (by rw [HCL.out]; omega) (by rw [HCL.out]; omega) ?_)
        | (at_builtin; refine wpList_append_run (by rfl) _ _ 27 (by rfl) _ _ _ w4 (by rfl) (by rfl) HRUN.out ?_))
      go_roundw
      case rel => exact ⟨m, by omega, by go_num, g4, c4, by rw [HDR.out, List.length_append]; rfl, by rw [HDR.out]; exact HOW4.out, HK4.out⟩
      case measure => first | (simp [intOf]; done) | (simp [intOf]; omega)
    | zero =>
      have hidx : ((0 : Nat) : Int) - 1 = -1 := by omega
      rw [List.drop_zero] at HOW ⊢
      have HRL : Hid (vs.reverse.length = n) := Lib.hid (by rw [List.length_reverse]; exact HN.out)
      have HRH : Hid (∀ v ∈ vs.reverse, v.head.length = 32) := Lib.hid (fun v hv => HD.out v (by simpa using hv))
      have HROK : Hid (∀ v ∈ vs.reverse, v.ok) := Lib.hid (fun v hv => HOK.out v (by simpa using hv))
      have HVT := Lib.hid (votes_own HRH.out HOW.out)
      rw [hidx, HRL.out]
      clear hidx HOW
      go_wp2_with fail
      ((with_reducible refine (choose_any ao n c vs view nodes wr (HV.out.same HW.out) HOK.out HN.out (by omega) hnod).mono ?_); rintro e w4 ⟨hk4, rfl⟩)
      have HXH := Lib.hid (ch_head view nodes vs HD.out)
      have HREV := Lib.hid (fun w g c3 h => choose_any (some ⟨g, 0, none⟩) n c3 vs.reverse view nodes w h HROK.out HRL.out (by omega) hnod)
      unfold ChPost at HREV
      rw [chOf_rev view nodes vs HCP.out] at HREV
      have HFACT := Lib.hid (fun x d => order_fact (view := view) (nodes := nodes) (d := d) (x := x) HD.out HCP.out)
      generalize chOf view nodes vs = ch at *
      obtain ⟨x, d, b⟩ := ch
      simp only at HXH HREV ⊢
      have HAL := Lib.hid (vote_all x)
      have HSV := Lib.hid (size_vote x HXH.out)
      have HSE := Lib.hid (size_two vote0 x vote0_head HXH.out)
      have HEQ : Hid (∀ wz, (Op.equalIn 10000 31 (.agg x.cells.toArray) (.agg x.cells.toArray)).run Try.prog wz = .ok true wz) := Lib.hid (fun wz => by rw [vote_equal x x HXH.out HXH.out]; simp)
      obtain ⟨w5, hw5⟩ : ∃ w5, (w4.alloc (.cells vote0.cells.toArray 31)).setRow w4.heap.size x.cells.toArray = w5 := ⟨_, rfl⟩
      have HN5 : Hid ((w4.alloc (.cells vote0.cells.toArray 31)).heap[w4.heap.size]? = some (.cells vote0.cells.toArray 31 (0, 0))) := Lib.hid (heap_alloc_new w4 _)
      have hk5 : Same wr w5 := by rw [← hw5]; exact (hk4.alloc _).setRow _ _ (.inl (by have := hk4.size; omega))
      have HQ5 : Hid (Whole w5 w4.heap.size 31 x.cells) := Lib.hid (by rw [← hw5]; exact Whole.row (cs := vote0.cells) (heap_alloc_new w4 _))
      have HS5 := Lib.hid (HW.out.trans hk5 (fun _ _ e => e))
      have HVT5 := Lib.hid (HVT.out.same hk5)
      obtain ⟨B5, hB5⟩ : ∃ q, w4.heap.size = q := ⟨_, rfl⟩
      rw [hB5] at HQ5
      have HB5 := Lib.hid hB5
      have HW5 := Lib.hid hw5
      clear hk4 hw5 hk5 hB5
      go_wp2_with (first
        | (refine wpList_store_row (by rfl) 31 _ _ (by rfl) w4.heap.size x.cells.toArray (by rfl) (by rfl) 31 vote0.cells.toArray HN5.out HSV.out HSE.out HAL.out ?_; rw [HW5.out, HB5.out]))
      ((with_reducible refine (HREV.out w5 g3 c3 HVT5.out).mono ?_); rintro e w6 ⟨hk6, rfl⟩)
      obtain ⟨w7, hw7⟩ : ∃ w7, (w6.alloc (.cells vote0.cells.toArray 31)).setRow w6.heap.size x.cells.toArray = w7 := ⟨_, rfl⟩
      have HN7 : Hid ((w6.alloc (.cells vote0.cells.toArray 31)).heap[w6.heap.size]? = some (.cells vote0.cells.toArray 31 (0, 0))) := Lib.hid (heap_alloc_new w6 _)
      have hk7 : Same w5 w7 := by rw [← hw7]; exact (hk6.alloc _).setRow _ _ (.inl (by have := hk6.size; omega))
      have HQ7 : Hid (Whole w7 w6.heap.size 31 x.cells) := Lib.hid (by rw [← hw7]; exact Whole.row (cs := vote0.cells) (heap_alloc_new w6 _))
      have HQ57 := Lib.hid (HQ5.out.keep hk7 (fun e => e))
      have HS7 := Lib.hid (HS5.out.trans hk7 (fun _ _ e => e))
      have HW7 := Lib.hid hw7
      clear hk6 hw7 hk7
      have hd1 : (d != d) = false := by simp
      have hb1 : (b != b) = false := by simp
      go_wp2_with (first
        | (refine wpList_store_row (by rfl) 31 _ _ (by rfl) w6.heap.size x.cells.toArray (by rfl) (by rfl) 31 vote0.cells.toArray HN7.out HSV.out HSE.out HAL.out ?_; rw [HW7.out])
        | (refine wpList_load_row_w (by rfl) 31 (.tmp 9) (by rfl) B5 (by rfl) 31 x.cells.toArray (0, 0) _ HQ57.out Try.underlying31 rfl HSV.out ?_)
        | (refine wpList_load_row_w (by rfl) 31 (.tmp 12) (by rfl) w6.heap.size (by rfl) 31 x.cells.toArray (0, 0) _ HQ7.out Try.underlying31 rfl HSV.out ?_)
        | (refine wpList_neq_is (by rfl) (.tmp 53) (.tmp 54) 31 31 (by rfl) x.cells.toArray x.cells.toArray true (by rfl) (by rfl) Try.voteGuard HEQ.out ?_))
      clear hd1 hb1
      go_loopw [68] (fun i wr => ∃ j : Nat, j ≤ n ∧ i = .int .i64 j ∧ Same w7 wr) (fun i _ => n - (intOf i).toNat)
      case atStart => exact ⟨0, by omega, rfl, Keeps.refl _ _⟩
      case round =>
        obtain ⟨j, hj, rfl, hs8⟩ := hrel
        have HS8 := Lib.hid hs8
        have HW8 := Lib.hid (HS7.out.trans hs8 (fun _ _ e => e))
        clear hs8
        by_cases hlt : j < n
        · have hjl : j < vs.length := by rw [HN.out]; exact hlt
          obtain ⟨g, off, rfl, hra⟩ := (HV.out.same HW8.out).at hjl
          have HVO : Hid vs[j].ok := Lib.hid (HOK.out _ (List.getElem_mem hjl))
          have HFV : Hid (b = true → vs[j].view = view → ¬ x.normal < vs[j].normal ∧ (vs[j].normal = x.normal → ¬ x.gen < vs[j].gen) ∧ ¬ d < vs[j].commit) := Lib.hid (fun hb hv => by
            have h := HFACT.out x d (by rw [hb]) _ (List.getElem_mem hjl) hv
            exact ⟨by omega, fun e => by have := h.2.1 e; omega, by omega⟩)
          generalize vs[j] = v at hra HVO HFV
          have HRA := Lib.hid hra
          have HALv := Lib.hid (vote_all v)
          have HSL := Lib.hid (size_voteL v HVO.out.head)
          have HSVv := Lib.hid (size_vote v HVO.out.head)
          have HSEv := Lib.hid (size_two vote0 v vote0_head HVO.out.head)
          have HN9 : Hid ((wr.alloc (.cells vote0.cells.toArray 31)).heap[wr.heap.size]? = some (.cells vote0.cells.toArray 31 (0, 0))) := Lib.hid (heap_alloc_new wr _)
          obtain ⟨w9, hw9⟩ : ∃ w9, (wr.alloc (.cells vote0.cells.toArray 31)).setRow wr.heap.size v.cells.toArray = w9 := ⟨_, rfl⟩
          have HW9 := Lib.hid hw9
          have hq9 : Whole w9 wr.heap.size 31 v.cells := by rw [← hw9]; exact Whole.row (cs := vote0.cells) (heap_alloc_new wr _)
          have hs9 : Same wr w9 := by rw [← hw9]; exact ((Keeps.refl _ _).alloc _).setRow _ _ (.inl (Nat.le_refl _))
          have HS9 := Lib.hid (HS8.out.trans hs9 (fun _ _ e => e))
          obtain ⟨_, v1, v2, v3, v4, _⟩ := vote_facts hq9 w9 (Keeps.refl _ _)
          obtain ⟨_, _, x2, x3, _, _⟩ := vote_facts HQ57.out w9 HS9.out
          have hjn : (j : Int) < (n : Int) := by omega
          clear hra hjl hw9 hq9 hs9
          cases b with
          | false =>
            clear v1 v2 v3 v4 x2 x3
            go_wp2_with (first
              | ((with_reducible refine wpList_load_mid ?_ 31 (.tmp 70) ?_ g (off + j * 37) ?_ v.cells _ ?_ Try.underlying31 ?_ ?_ ?_); rfl; rfl; rfl; exact HRA.out; rfl; exact HSL.out)
              | ((with_reducible refine wpList_store_row ?_ 31 (.tmp 16) (.tmp 71) ?_ wr.heap.size v.cells.toArray ?_ ?_ 31 vote0.cells.toArray ?_ ?_ ?_ ?_ ?_); rfl; rfl; rfl; rfl; exact HN9.out; exact HSVv.out; exact HSEv.out; exact HALv.out; rw [HW9.out])
                  | ((with_reducible refine wpList_skip_by 1 73 true ?_ ?_ ?_ ?_); rfl; rfl; kernel_rfl)
                  | ((with_reducible refine wpList_skip_by 7 79 true ?_ ?_ ?_ ?_); rfl; rfl; kernel_rfl)
                  | ((with_reducible refine wpList_skip_un 13 85 false ?_ ?_ ?_ ?_); rfl; rfl; kernel_rfl)
                  | ((with_reducible refine wpList_skip_un 19 91 true ?_ ?_ ?_ ?_); rfl; rfl; kernel_rfl)
                  | ((with_reducible refine wpList_skip_un 27 99 false ?_ ?_ ?_ ?_); rfl; rfl; kernel_rfl))
            any_goals (exact (undef_bool _ (by assumption)).elim)
            go_roundw
            case rel => exact ⟨j + 1, by omega, by go_num, HS9.out⟩
            case measure => simp [intOf]; omega
          | true =>
            by_cases hv : v.view = view
            · obtain ⟨f1, f2, f3⟩ := HFV.out rfl hv
              have t1 : (v.view == view) = true := by simpa using hv
              rw [hv] at v1
              clear hv t1
              by_cases he : v.normal = x.normal
              · have f4 := f2 he
                rw [he] at v2
                clear f1 f2 he
                go_wp2_with (first
                  | ((with_reducible refine wpList_load_mid ?_ 31 (.tmp 70) ?_ g (off + j * 37) ?_ v.cells _ ?_ Try.underlying31 ?_ ?_ ?_); rfl; rfl; rfl; exact HRA.out; rfl; exact HSL.out)
                  | ((with_reducible refine wpList_store_row ?_ 31 (.tmp 16) (.tmp 71) ?_ wr.heap.size v.cells.toArray ?_ ?_ 31 vote0.cells.toArray ?_ ?_ ?_ ?_ ?_); rfl; rfl; rfl; rfl; exact HN9.out; exact HSVv.out; exact HSEv.out; exact HALv.out; rw [HW9.out]))
                go_roundw
                case rel => exact ⟨j + 1, by omega, by go_num, HS9.out⟩
                case measure => simp [intOf]; omega
              · have t2 : (v.normal == x.normal) = false := by simpa using he
                clear f2
                go_wp2_with (first
                  | ((with_reducible refine wpList_load_mid ?_ 31 (.tmp 70) ?_ g (off + j * 37) ?_ v.cells _ ?_ Try.underlying31 ?_ ?_ ?_); rfl; rfl; rfl; exact HRA.out; rfl; exact HSL.out)
                  | ((with_reducible refine wpList_store_row ?_ 31 (.tmp 16) (.tmp 71) ?_ wr.heap.size v.cells.toArray ?_ ?_ 31 vote0.cells.toArray ?_ ?_ ?_ ?_ ?_); rfl; rfl; rfl; rfl; exact HN9.out; exact HSVv.out; exact HSEv.out; exact HALv.out; rw [HW9.out])
                  | ((with_reducible refine wpList_skip_by 19 91 true ?_ ?_ ?_ ?_); rfl; rfl; kernel_rfl))
                go_roundw
                case rel => exact ⟨j + 1, by omega, by go_num, HS9.out⟩
                case measure => simp [intOf]; omega
            · have t1 : (v.view == view) = false := by simpa using hv
              clear v2 v3 v4 x2 x3
              go_wp2_with (first
                | ((with_reducible refine wpList_load_mid ?_ 31 (.tmp 70) ?_ g (off + j * 37) ?_ v.cells _ ?_ Try.underlying31 ?_ ?_ ?_); rfl; rfl; rfl; exact HRA.out; rfl; exact HSL.out)
                | ((with_reducible refine wpList_store_row ?_ 31 (.tmp 16) (.tmp 71) ?_ wr.heap.size v.cells.toArray ?_ ?_ 31 vote0.cells.toArray ?_ ?_ ?_ ?_ ?_); rfl; rfl; rfl; rfl; exact HN9.out; exact HSVv.out; exact HSEv.out; exact HALv.out; rw [HW9.out])
                  | ((with_reducible refine wpList_skip_by 7 79 true ?_ ?_ ?_ ?_); rfl; rfl; kernel_rfl)
                  | ((with_reducible refine wpList_skip_un 13 85 false ?_ ?_ ?_ ?_); rfl; rfl; kernel_rfl)
                  | ((with_reducible refine wpList_skip_un 19 91 true ?_ ?_ ?_ ?_); rfl; rfl; kernel_rfl)
                  | ((with_reducible refine wpList_skip_un 27 99 false ?_ ?_ ?_ ?_); rfl; rfl; kernel_rfl))
              any_goals (exact (undef_bool _ (by assumption)).elim)
              go_roundw
              case rel => exact ⟨j + 1, by omega, by go_num, HS9.out⟩
              case measure => simp [intOf]; omega
        · obtain rfl : j = n := by omega
          have hjn : ¬ (j : Int) < (j : Int) := by omega
          go_wp2
          go_ret
          exact ⟨rfl, HW8.out⟩
end Go.Proofs.Yteidjpnmfmcfkaa
