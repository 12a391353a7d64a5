/- slices.Clone, slices.BinarySearchFunc, slices.Insert over rows of VoteX. -/
import Derived.Test.YteidjpnmfmcfkaaVt9
import Derived.Test.YteidjpnmfmcfkaaRw
import Derived.Laws.Externs
import Derived.Lib.SliceRun
namespace Go.Proofs.Yteidjpnmfmcfkaa
open Go.RowKit
set_option linter.unusedVariables false

/-- The keys of a row. -/
def keyF (vs : List VoteX) (t : Int) (j : Nat) : Int := icmp ((vs.map VoteX.node).getD j 0) t
def bsI (vs : List VoteX) (t : Int) : Nat := bsAt (keyF vs t) vs.length 0 vs.length
def bsFound (vs : List VoteX) (t : Int) : Bool := decide (bsI vs t < vs.length) && decide ((vs.map VoteX.node).getD (bsI vs t) 0 = t)

set_option maxRecDepth 100000 in
set_option maxHeartbeats 1600000 in
/-- slices.Clone. -/
theorem clone_any (ao : Option Addr) (n c : Nat) (vs : List VoteX) (w : World) (h : VotesAt w ao vs) (hok : ∀ v ∈ vs, v.head.length = 32) (hn : vs.length = n) (hl : n ≤ 1000000) (hnil : ao = none → n = 0 ∧ c = 0) :
    Calls Try.prog 17 #[.slice ao n c] w fun e w' => ∃ v', e = .returned v' ∧ w'.ownsRow w.heap.size 31 37 v' n (vs.flatMap VoteX.cells) ∧ Same w w' := by
  have HV := Lib.hid h
  have HN := Lib.hid hn
  have HD := Lib.hid hok
  cases ao with
  | none =>
    obtain ⟨h1, rfl⟩ := hnil rfl
    subst h1
    have h0 := List.length_eq_zero_iff.1 hn
    subst h0
    clear h hok hn hnil
    have hnl := fun a n c (w : World) => Lib.run_eql_slice_nil (P := Try.prog) w 27 31 a n c 0 0 Try.underlying27
    go_enter Try.func17, Try.ntmps17
    go_wp2
    go_ret
    exact ⟨_, rfl, World.ownsRow_nil _ _ _ _, Keeps.refl _ _⟩
  | some a =>
    obtain ⟨g3, c3, w3, hrun, hown, hg3⟩ := append_votes (w.alloc (.cells #[] 31)) w.heap.size w.heap.size 0 [] vs (some a) c (fun v hv => by simp at hv) HD.out (own_votes0 w) (HV.out.same ((Keeps.refl _ _).alloc _)) (by rw [HN.out]; simp; omega) (by simp)
    rw [List.nil_append, HN.out] at hrun
    rw [List.nil_append, HN.out] at hown
    simp only [List.length_nil] at hrun
    have hk3 : Same w w3 := ((Keeps.refl (fun _ => False) w).alloc _).grown hg3 (fun q e1 e2 => by simp only [Option.some.injEq] at e1; omega)
    have HRUN := Lib.hid hrun
    have HOW := Lib.hid hown
    have HK := Lib.hid hk3
    obtain ⟨ab, ao, asp⟩ := a
    clear h hok hn hnil hrun hown hk3 hg3
    have hnl := fun a n c (w : World) => Lib.run_eql_slice_nil (P := Try.prog) w 27 31 a n c 0 0 Try.underlying27
    go_enter Try.func17, Try.ntmps17
    go_wp2_with (first
      | (at_builtin; refine wpList_append_run (by rfl) _ _ 27 (by rfl) _ _ _ w3 (by rfl) (by rfl) HRUN.out ?_))
    go_ret
    exact ⟨_, rfl, HOW.out, HK.out⟩

set_option maxRecDepth 100000 in
set_option maxHeartbeats 1600000 in
theorem addCmp_any (v : VoteX) (t : Int) (w : World) (hok : v.head.length = 32) : Calls Try.prog 19 #[.agg v.cells.toArray, .int .i64 t] w fun e w' => e = .returned (.int .i64 (icmp v.node t)) ∧ Same w w' := by
  have HC : Hid ((w.alloc (.cells v.cells.toArray 31)).cell? ⟨w.heap.size, 0, none⟩ = some (.int .i64 v.node)) := Lib.hid (by
    have h0 := heap_alloc_new w (.cells v.cells.toArray 31)
    simp only [World.cell?, h0]; rfl)
  have HK : Hid (Same w (w.alloc (.cells v.cells.toArray 31))) := Lib.hid ((Keeps.refl _ _).alloc _)
  obtain ⟨cs, hcs⟩ : ∃ cs, v.cells.toArray = cs := ⟨_, rfl⟩
  rw [hcs] at HC HK ⊢
  clear hcs
  have hc := HC.out
  go_enter Try.func19, Try.ntmps19
  go_wp2_with (first | (go_at_call 20; with_reducible refine (cmpInt_any _ _ _).mono ?_; rintro e w' ⟨rfl, rfl⟩))
  go_ret
  exact ⟨rfl, HK.out⟩

set_option maxRecDepth 100000 in
set_option maxHeartbeats 6400000 in
/-- slices.BinarySearchFunc, by the node. -/
theorem bsf_any (ao : Option Addr) (n c : Nat) (vs : List VoteX) (t : Int) (w : World) (h : VotesAt w ao vs) (hok : ∀ v ∈ vs, v.head.length = 32) (hn : vs.length = n) (hl : n ≤ 1000000) :
    Calls Try.prog 18 #[.slice ao n c, .int .i64 t, .func (.func 19) #[] #[]] w fun e w' => e = .returned (.tuple #[.int .i64 (bsI vs t : Nat), .bool (bsFound vs t)]) ∧ Same w w' := by
  have HV := Lib.hid h
  have HN := Lib.hid hn
  have HD := Lib.hid hok
  obtain ⟨r, hr⟩ : ∃ r, bsI vs t = r := ⟨_, rfl⟩
  obtain ⟨b, hb⟩ : ∃ b, bsFound vs t = b := ⟨_, rfl⟩
  have HR := Lib.hid hr
  have HB := Lib.hid hb
  rw [hr, hb]
  clear h hok hn hr hb
  go_enter Try.func18, Try.ntmps18
  go_wp2
  go_loopw [9, 10] (fun si sj wr => ∃ lo hi : Nat, si = .int .i64 lo ∧ sj = .int .i64 hi ∧ lo ≤ hi ∧ hi ≤ n ∧ Hid (Same w wr) ∧ Hid (bsAt (keyF vs t) (hi - lo) lo hi = r)) (fun si sj _ => (intOf sj - intOf si).toNat)
  case atStart => exact ⟨0, n, rfl, rfl, by omega, Nat.le_refl _, Lib.hid (Keeps.refl _ _), Lib.hid (by rw [← HR.out, ← HN.out]; unfold bsI; rw [Nat.sub_zero])⟩
  case round =>
    obtain ⟨lo, hi, rfl, rfl, hlh, hin, HS, HI⟩ := hrel
    by_cases hlt : lo < hi
    · obtain ⟨m, hm⟩ : ∃ m, (lo + hi) / 2 = m := ⟨_, rfl⟩
      have hm1 : lo ≤ m ∧ m < hi := by omega
      have hml : m < vs.length := by rw [HN.out]; omega
      have hmi : ((lo : Int) + (hi : Int)) / 2 = (m : Int) := by omega
      obtain ⟨g, off, rfl, hra⟩ := (HV.out.same HS.out).at hml
      have HVD : Hid (keyF vs t m = icmp vs[m].node t) := Lib.hid (by unfold keyF; rw [List.getD_eq_getElem?_getD, List.getElem?_map, List.getElem?_eq_getElem hml]; rfl)
      have HVO : Hid ((fun v : VoteX => v.head.length = 32) vs[m]) := Lib.hid (HD.out _ (List.getElem_mem hml))
      generalize vs[m] = v at hra HVD HVO
      have HRA := Lib.hid hra
      have HSL := Lib.hid (size_voteL v HVO.out)
      have HST : Hid (bsAt (keyF vs t) (hi - lo) lo hi = if keyF vs t m < 0 then bsAt (keyF vs t) (hi - (m + 1)) (m + 1) hi else bsAt (keyF vs t) (m - lo) lo m) := Lib.hid (by
        obtain ⟨q, hq⟩ : ∃ q, hi - lo = q + 1 := ⟨hi - lo - 1, by omega⟩
        rw [hq, bsAt, if_pos hlt, hm]
        split
        · exact bsAt_enough _ _ _ _ _ (by omega) (by omega)
        · exact bsAt_enough _ _ _ _ _ (by omega) (by omega))
      clear hra hml
      by_cases hneg : icmp v.node t < 0
      · have HI2 : Hid (bsAt (keyF vs t) (hi - (m + 1)) (m + 1) hi = r) := Lib.hid (by have := HST.out; rw [HI.out, HVD.out, if_pos hneg] at this; exact this.symm)
        clear hm
        go_wp2_with (first
          | (refine wpList_load_mid (by rfl) 31 _ (by rfl) g (off + m * 37) (by rfl) v.cells _ HRA.out Try.underlying31 rfl HSL.out ?_)
          | (go_at_call 19; with_reducible refine (addCmp_any v t _ HVO.out).mono ?_; rintro e w1 ⟨rfl, hk1⟩; have HK1 := Lib.hid (HS.out.trans hk1 (fun _ _ e => e)); clear hk1))
        go_roundw
        case rel => exact ⟨m + 1, hi, by go_num, rfl, by omega, hin, HK1, HI2⟩
        case measure => simp [intOf]; omega
      · have HI2 : Hid (bsAt (keyF vs t) (m - lo) lo m = r) := Lib.hid (by have := HST.out; rw [HI.out, HVD.out, if_neg hneg] at this; exact this.symm)
        clear hm
        go_wp2_with (first
          | (refine wpList_load_mid (by rfl) 31 _ (by rfl) g (off + m * 37) (by rfl) v.cells _ HRA.out Try.underlying31 rfl HSL.out ?_)
          | (go_at_call 19; with_reducible refine (addCmp_any v t _ HVO.out).mono ?_; rintro e w1 ⟨rfl, hk1⟩; have HK1 := Lib.hid (HS.out.trans hk1 (fun _ _ e => e)); clear hk1))
        go_roundw
        case rel => exact ⟨lo, m, by go_num, by go_num, by omega, by omega, HK1, HI2⟩
        case measure => simp [intOf]; omega
    · obtain rfl : hi = lo := by omega
      have hrl : r = hi := by have := HI.out; rw [Nat.sub_self, bsAt] at this; exact this.symm
      subst hrl
      by_cases hrn : r < n
      · have hml : r < vs.length := by rw [HN.out]; omega
        obtain ⟨g, off, rfl, hra⟩ := (HV.out.same HS.out).at hml
        have HBV : Hid (b = decide (icmp vs[r].node t = 0)) := Lib.hid (by
          rw [← HB.out]; unfold bsFound; rw [HR.out]
          rw [List.getD_eq_getElem?_getD, List.getElem?_map, List.getElem?_eq_getElem hml, decide_eq_true hml, Bool.true_and]
          exact decide_eq_decide.2 icmp_zero.symm)
        have HVO : Hid ((fun v : VoteX => v.head.length = 32) vs[r]) := Lib.hid (HD.out _ (List.getElem_mem hml))
        generalize vs[r] = v at hra HBV HVO
        have HRA := Lib.hid hra
        have HSL := Lib.hid (size_voteL v HVO.out)
        clear hra hml
        by_cases hz : icmp v.node t = 0
        · have hz2 : (icmp v.node t == 0) = true := by simpa using hz
          have HBB : Hid (b = true) := Lib.hid (by rw [HBV.out]; exact decide_eq_true hz)
          clear hz
          go_wp2_with (first
            | (refine wpList_load_mid_w (by rfl) 31 _ (by rfl) g (off + r * 37) (by rfl) v.cells _ HRA.out Try.underlying31 rfl HSL.out ?_)
            | (go_at_call 19; with_reducible refine (addCmp_any v t _ HVO.out).mono ?_; rintro e w1 ⟨rfl, hk1⟩; have HK1 := Lib.hid (HS.out.trans hk1 (fun _ _ e => e)); clear hk1))
          go_ret2
          exact ⟨by rw [HBB.out]; rfl, HK1.out⟩
        · have hz2 : (icmp v.node t == 0) = false := by simpa using hz
          have HBB : Hid (b = false) := Lib.hid (by rw [HBV.out]; exact decide_eq_false hz)
          clear hz
          go_wp2_with (first
            | (refine wpList_load_mid_w (by rfl) 31 _ (by rfl) g (off + r * 37) (by rfl) v.cells _ HRA.out Try.underlying31 rfl HSL.out ?_)
            | (go_at_call 19; with_reducible refine (addCmp_any v t _ HVO.out).mono ?_; rintro e w1 ⟨rfl, hk1⟩; have HK1 := Lib.hid (HS.out.trans hk1 (fun _ _ e => e)); clear hk1))
          go_ret2
          exact ⟨by rw [HBB.out]; rfl, HK1.out⟩
      · obtain rfl : r = n := by omega
        have HBB : Hid (b = false) := Lib.hid (by
          rw [← HB.out]; unfold bsFound; rw [HR.out, HN.out, decide_eq_false (by omega), Bool.false_and])
        have hlt2 : ¬ (r : Int) < (r : Int) := by omega
        go_wp2_with (first | (refine wpList_skip (by rfl) ?_))
        go_ret2
        exact ⟨by rw [HBB.out]; rfl, HS.out⟩
end Go.Proofs.Yteidjpnmfmcfkaa
