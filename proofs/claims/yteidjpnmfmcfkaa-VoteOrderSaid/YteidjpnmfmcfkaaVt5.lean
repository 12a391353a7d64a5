/- What vote.Choose does. -/
import Derived.Test.YteidjpnmfmcfkaaVt4
namespace Go.Proofs.Yteidjpnmfmcfkaa
open Go.RowKit Go.Maps
set_option linter.unusedVariables false

theorem results_row_tmp2 {P : Program} {fn : Func} {p u v : Tmp} {ty : TypeId} (h : fn.results = #[.cell p ty, .tmp u, .tmp v]) (tmps : Array Value) (w : World) (g : Nat) (t : TypeId) (cs : Array Value) (fr : Nat × Nat) (d : TypeDesc)
    (hp : tmps.getD p undef = .pointer (some ⟨g, 0, none⟩)) (hg : w.heap[g]? = some (.cells cs t fr))
    (hu : P.underlying ty = some d) (hd : (match d with | .struct _ | .array _ _ => true | _ => false) = true) (hi : (P.info? ty).map (·.size) = some cs.size) :
    (results fn tmps).run P w = .ok (.tuple #[.agg cs, tmps.getD u undef, tmps.getD v undef]) w := by
  have e : (results fn tmps).run P w = ((asAddr (tmps.getD p undef)).run P w).andThen fun a w₁ => ((loadVar ty a).run P w₁).andThen fun x w₂ => .ok (.tuple #[x, tmps.getD u undef, tmps.getD v undef]) w₂ := by
    simp only [results, h]
    simp [Sem.run_bind, Result.andThen]
  rw [e, hp]
  simp [asAddr, run_loadVar_row w g t ty cs fr d hg hu hd hi]
theorem wpList_load_row_w {P : Program} {ops : Array Oper} {rest : List Oper} {o : Oper} {a : Act} {w : World} {Q : Exit → Act → World → Prop} (hw : Region.wanted o (yielded ops a.tmps) = true) (ty : TypeId) (x : Operand) (ho : o.op = .load ty x)
    (g : Nat) (hx : a.eval x = .pointer (some ⟨g, 0, none⟩)) (t : TypeId) (cs : Array Value) (fr : Nat × Nat) (d : TypeDesc) (hg : w.heap[g]? = some (.cells cs t fr))
    (hu : P.underlying ty = some d) (hd : (match d with | .struct _ | .array _ _ => true | _ => false) = true) (hi : (P.info? ty).map (·.size) = some cs.size)
    (h : wpList P ops Q rest (a.put o.dst (.agg cs)) w) : wpList P ops Q (o :: rest) a w :=
  wpList_step fun K hK => by rw [if_pos hw]; exact wp_load_row ty x ho g hx t cs fr d hg hu hd hi (hK _ _ h)
section
variable {ops : Array Oper} {rest : List Oper} {o : Oper} {a : Act} {w : World} {Q : Exit → Act → World → Prop}
theorem wpList_len_n (hg : o.guard = none) (m : Operand) (hop : o.op = Op.call { callee := Callee.builtin Builtin.len, args := #[m], argTypes := #[44] }) (M n : Nat) (l : List Int) (hm : a.eval m = .map (some M)) (h : MapN w M n l)
    (hK : wpList Try.prog ops Q rest (a.put o.dst (.int .i64 l.length)) w) : wpList Try.prog ops Q (o :: rest) a w := by
  obtain ⟨D, h1, h2, _⟩ := h
  exact wpList_len_own w hg m _ hop _ _ Try.underlying44 _ M n D hm h1 (by rw [h2]; exact hK)
theorem wpList_put_n (hg : o.guard = none) (m x v : Operand) (hop : o.op = Op.mapUpdate 44 m x v) (M : Nat) (hm : a.eval m = .map (some M)) (k : Int) (hx : a.eval x = .int .i64 k) (hv : a.eval v = .agg #[]) (w' : World)
    (hrun : (Instr.mapUpdate 44 (.map (some M)) (.int .i64 k) (.agg #[])).run Try.prog w = .ok () w') (hK : wpList Try.prog ops Q rest (a.put o.dst undef) w') : wpList Try.prog ops Q (o :: rest) a w := by
  refine wpList_plain hg fun K' hK' => ?_
  unfold Oper.wp
  simp [execOp, hop, hm, hx, hv, hrun, Result.andThen]
  exact hK' _ _ hK
end
theorem vote_all (v : VoteX) : v.cells.toArray.all (·.oneCell') = true := by
  simp only [VoteX.cells, List.all_toArray, List.all_cons, Bool.and_eq_true]
  refine ⟨rfl, rfl, rfl, rfl, rfl, ?_⟩
  rw [List.all_eq_true]
  exact u8s_cell _
theorem Try.zeroVote (w : World) : (zeroValue 31).run Try.prog w = .ok (.agg vote0.cells.toArray) w := by kernel_rfl
theorem Try.sizeVote : (Try.prog.info? 31).map (fun i => i.size) = some 37 := by kernel_rfl
theorem size_vote (v : VoteX) (h : v.head.length = 32) : (Try.prog.info? 31).map (fun i => i.size) = some v.cells.toArray.size := Try.sizeVote.trans (congrArg some (by rw [List.size_toArray, v.cells_length h]))
theorem size_voteL (v : VoteX) (h : v.head.length = 32) : (Try.prog.info? 31).map (fun i => i.size) = some v.cells.length := Try.sizeVote.trans (congrArg some (v.cells_length h).symm)
theorem size_two (v u : VoteX) (h : v.head.length = 32) (h2 : u.head.length = 32) : v.cells.toArray.size = u.cells.toArray.size := by rw [List.size_toArray, List.size_toArray, v.cells_length h, u.cells_length h2]
theorem vote0_head : vote0.head.length = 32 := rfl

def VotesAt (w : World) (ao : Option Addr) (vs : List VoteX) : Prop := vs = [] ∨ ∃ g off, ao = some ⟨g, off, none⟩ ∧ ∀ j (h : j < vs.length), w.rangeAt g (off + j * 37) vs[j].cells
theorem VotesAt.keep {S : Nat → Prop} {w w' : World} {ao : Option Addr} {vs : List VoteX} (h : VotesAt w ao vs) (k : Keeps S w w') (hS : ∀ a, ao = some a → vs ≠ [] → ¬ S a.block) : VotesAt w' ao vs := by
  rcases h with h | ⟨g, off, e, h⟩
  · exact .inl h
  · exact .inr ⟨g, off, e, fun j hj => rangeAt_keep (h j hj) k (fun _ => hS _ e (fun e2 => by subst e2; simp at hj))⟩
theorem VotesAt.same {w w' : World} {ao : Option Addr} {vs : List VoteX} (h : VotesAt w ao vs) (k : Same w w') : VotesAt w' ao vs := h.keep k (fun _ _ _ e => e)
theorem VotesAt.at {w : World} {ao : Option Addr} {vs : List VoteX} (h : VotesAt w ao vs) {j : Nat} (hj : j < vs.length) : ∃ g off, ao = some ⟨g, off, none⟩ ∧ w.rangeAt g (off + j * 37) vs[j].cells := by
  rcases h with h | ⟨g, off, e, h⟩
  · subst h; simp at hj
  · exact ⟨g, off, e, h j hj⟩
/-- Where the choice stands. -/
structure ChSt (w0 wr : World) (M B : Nat) (j : Nat) (s : CS) : Prop where
  map : MapN wr M j s.nodes
  best : Whole wr B 31 s.row.cells
  keep : Keeps (fun q => q = M ∨ q = B) w0 wr
def chOf (view nodes : Int) (vs : List VoteX) : VoteX × Int × Bool := if ((csOf view vs).nodes.length : Int) < maj nodes then (vote0, 0, false) else ((csOf view vs).row, (csOf view vs).commit, true)
def ChPost (w : World) (view nodes : Int) (vs : List VoteX) (e : Ending) (w' : World) : Prop := Same w w' ∧ e = .returned (.tuple #[.agg (chOf view nodes vs).1.cells.toArray, .int .u64 (chOf view nodes vs).2.1, .bool (chOf view nodes vs).2.2])
theorem ChSt.miss {w0 wr w1 : World} {M B j : Nat} {s : CS} {view : Int} {v : VoteX} (h : ChSt w0 wr M B j s) (k : Same wr w1) (hv : ¬ v.view = view) : ChSt w0 w1 M B (j + 1) (s.step view v) := by
  have e : s.step view v = s := by unfold CS.step; rw [if_neg hv]
  rw [e]
  obtain ⟨D, h1, h2⟩ := h.map.keep k (fun e => e)
  exact ⟨⟨D, h1.mono (Nat.le_succ j), h2⟩, h.best.keep k (fun e => e), h.keep.trans k (fun _ _ e => e.elim)⟩

set_option maxRecDepth 100000 in
set_option maxHeartbeats 25600000 in
theorem choose_any (ao : Option Addr) (n c : Nat) (vs : List VoteX) (view nodes : Int) (w : World) (h : VotesAt w ao vs) (hok : ∀ v ∈ vs, v.ok) (hn : vs.length = n) (hl : n ≤ 1000000) (hnod : -9223372036854775808 ≤ nodes ∧ nodes ≤ 9223372036854775807) :
    Calls Try.prog 15 #[.slice ao n c, .int .u64 view, .int .i64 nodes] w (ChPost w view nodes vs) := by
  obtain ⟨M, hM⟩ : ∃ q, w.heap.size + 1 = q := ⟨_, rfl⟩
  obtain ⟨B, hB⟩ : ∃ q, w.heap.size + 1 + 1 = q := ⟨_, rfl⟩
  obtain ⟨w0, hw0⟩ : ∃ w0, ((w.alloc (.cells vote0.cells.toArray 31)).alloc (.map #[] 0)).alloc (.cells vote0.cells.toArray 31) = w0 := ⟨_, rfl⟩
  have HS0 : Hid (Same w w0) := Lib.hid (by rw [← hw0]; exact (((Keeps.refl _ _).alloc _).alloc _).alloc _)
  have HST0 : Hid (ChSt w0 w0 M B 0 ⟨none, 0, []⟩) := Lib.hid (by
    refine ⟨?_, ?_, Keeps.refl _ _⟩
    · have h1 := MapN.made (w.alloc (.cells vote0.cells.toArray 31))
      rw [World.size_alloc, hM] at h1
      rw [← hw0]
      exact h1.keep ((Keeps.refl (fun _ => False) _).alloc _) (fun e => e)
    · have h1 := heap_alloc_new ((w.alloc (.cells vote0.cells.toArray 31)).alloc (.map #[] 0)) (.cells vote0.cells.toArray 31)
      rw [World.size_alloc, World.size_alloc, hB, hw0] at h1
      exact h1)
  have HR0 : Hid (Whole w0 w.heap.size 31 vote0.cells) := Lib.hid (by
    rw [← hw0]
    exact ((Keeps.refl (fun _ => False) _).alloc _).obj (((Keeps.refl (fun _ => False) _).alloc _).obj (heap_alloc_new w _) (fun e => e)) (fun e => e))
  have HZ0 : Hid (w0.heap.size = w.heap.size + 3) := Lib.hid (by rw [← hw0]; simp)
  have HW0 := Lib.hid hw0
  have HMB : Hid (w.heap.size + 1 = M ∧ w.heap.size + 1 + 1 = B) := Lib.hid ⟨hM, hB⟩
  have HMB2 : Hid (M + 1 = B) := Lib.hid (by omega)
  have HBM : Hid (B ≠ M) := Lib.hid (by omega)
  have HV := Lib.hid h
  have HOK := Lib.hid hok
  have HN := Lib.hid hn
  have HGOOD := Lib.hid (good_of view vs (fun v hv => (hok v hv).head))
  have hmm := @run_makeMap Try.prog
  have hzv := Try.zeroVote
  clear h hok hn hw0 hM hB
  go_enter Try.func15, Try.ntmps15
  go_wp2
  rw [HW0.out, HMB.out.1, HMB2.out]
  go_loopw [11, 17] (fun u i wr => ∃ j : Nat, j ≤ n ∧ i = .int .i64 j ∧ u = .int .u64 (csOf view (vs.take j)).commit ∧ ChSt w0 wr M B j (csOf view (vs.take j))) (fun _ i _ => n - (intOf i).toNat)
  case atStart => exact ⟨0, by omega, rfl, rfl, HST0.out⟩
  case round =>
    obtain ⟨j, hj, rfl, rfl, hst⟩ := hrel
    have HST1 := Lib.hid hst
    clear hst
    obtain ⟨s, hs⟩ : ∃ s, csOf view (vs.take j) = s := ⟨_, rfl⟩
    rw [hs] at HST1
    have HG := Lib.hid (HGOOD.out j (by rw [HN.out]; exact hj))
    rw [hs] at HG ⊢
    have HSW : Hid (Same w wr) := Lib.hid (HS0.out.trans HST1.out.keep (fun q hq e => by have := HMB.out; omega))
    have HML : Hid (M < wr.heap.size) := Lib.hid (by have := HST1.out.keep.size; have := HZ0.out; have := HMB.out; omega)
    have HBL : Hid (B < wr.heap.size) := Lib.hid HST1.out.best.lt
    by_cases hlt : j < n
    · have hjl : j < vs.length := by rw [HN.out]; exact hlt
      obtain ⟨g, off, rfl, hra⟩ := (HV.out.same HSW.out).at hjl
      have HTK : Hid (csOf view (vs.take (j + 1)) = s.step view vs[j]) := Lib.hid (by rw [csOf_snoc (List.getElem?_eq_getElem hjl), hs])
      have HVO : Hid vs[j].ok := Lib.hid (HOK.out _ (List.getElem_mem hjl))
      generalize vs[j] = v at hra HTK HVO
      have HRA := Lib.hid hra
      have HAL := Lib.hid (vote_all v)
      have HSL := Lib.hid (size_voteL v HVO.out.head)
      have HSV := Lib.hid (size_vote v HVO.out.head)
      have HSE := Lib.hid (size_two vote0 v vote0_head HVO.out.head)
      have HN1 : Hid ((wr.alloc (.cells vote0.cells.toArray 31)).heap[wr.heap.size]? = some (.cells vote0.cells.toArray 31 (0, 0))) := Lib.hid (heap_alloc_new wr _)
      obtain ⟨w1, hw1⟩ : ∃ w1, (wr.alloc (.cells vote0.cells.toArray 31)).setRow wr.heap.size v.cells.toArray = w1 := ⟨_, rfl⟩
      have HW1 := Lib.hid hw1
      have HQ1 : Hid (Whole w1 wr.heap.size 31 v.cells) := Lib.hid (by rw [← hw1]; exact Whole.row (cs := vote0.cells) (heap_alloc_new wr _))
      have hs1 : Same wr w1 := by rw [← hw1]; exact ((Keeps.refl _ _).alloc _).setRow _ _ (.inl (Nat.le_refl _))
      have hview := (vote_facts HQ1.out w1 (Keeps.refl _ _)).2.1
      have hjn : (j : Int) < (n : Int) := by omega
      clear hra hjl hw1
      by_cases hv : v.view = view
      case neg =>
        have t1 : (v.view == view) = false := by simpa using hv
        have t2 : (v.view != view) = true := by simpa using hv
        have HNS : Hid (ChSt w0 w1 M B (j + 1) (s.step view v)) := Lib.hid (HST1.out.miss hs1 hv)
        have HCS : Hid ((s.step view v).commit = s.commit) := Lib.hid (by unfold CS.step; rw [if_neg hv])
        have HV0 := Lib.hid hv
        clear hs1 hs hv
        generalize s.commit = cm at *
        go_wp2_with (first
          | (refine wpList_load_mid (by rfl) 31 _ (by rfl) g (off + j * 37) (by rfl) v.cells _ HRA.out Try.underlying31 rfl HSL.out ?_)
          | (refine wpList_store_row (by rfl) 31 _ _ (by rfl) wr.heap.size v.cells.toArray (by rfl) (by rfl) 31 vote0.cells.toArray HN1.out HSV.out HSE.out HAL.out ?_; rw [HW1.out]))
        go_roundw
        case rel => exact ⟨j + 1, by omega, by go_num, by rw [HTK.out, HCS.out], by rw [HTK.out]; exact HNS.out⟩
        case measure => simp [intOf]; omega
      have HMP : Hid (MapN w1 M j s.nodes) := Lib.hid (HST1.out.map.keep hs1 (fun e => e))
      have HB1 : Hid (Whole w1 B 31 s.row.cells) := Lib.hid (HST1.out.best.keep hs1 (fun e => e))
      have HK01 := Lib.hid (HST1.out.keep.trans hs1 (fun _ _ e => e.elim))
      have HJM : Hid (j < maxLen) := Lib.hid (by unfold maxLen; omega)
      obtain ⟨l, hln⟩ : ∃ l, s.nodes = l := ⟨_, rfl⟩
      obtain ⟨rw0, hrw⟩ : ∃ r, s.row = r := ⟨_, rfl⟩
      obtain ⟨cm, hcm⟩ : ∃ x, s.commit = x := ⟨_, rfl⟩
      obtain ⟨cmx, hcx⟩ : ∃ x, (if cm < v.commit then v.commit else cm) = x := ⟨_, rfl⟩
      have HSR : Hid (rw0.cells.toArray.size = v.cells.toArray.size) := Lib.hid (size_two rw0 v (by rw [← hrw]; exact CS.row_head HG.out) HVO.out.head)
      have HRH : Hid (rw0.head.length = 32) := Lib.hid (by rw [← hrw]; exact CS.row_head HG.out)
      have HCM := Lib.hid hcx
      have HCS : Hid ((s.step view v).commit = cmx) := Lib.hid (by
        unfold CS.step
        rw [if_pos hv, ← hcx, ← hcm])
      have HEMP : Hid (s.best = none ↔ l = []) := Lib.hid (by rw [← hln]; exact HG.out.none)
      have HSTP : Hid (∀ R, CS.up s.best v = R → s.step view v = ⟨some R, cmx, if v.node ∈ l then l else l ++ [v.node]⟩) := Lib.hid (fun R hR => by
        have h2 := HCS.out
        unfold CS.step at h2 ⊢
        rw [if_pos hv] at h2 ⊢
        simp only at h2
        rw [hR, h2, hln])
      have HROW : Hid (∀ b, s.best = some b → b = rw0) := Lib.hid (fun b hb => by rw [← hrw, CS.row, hb]; rfl)
      rw [hln] at HMP
      rw [hrw] at HB1
      have t1 : (v.view == view) = true := by simpa using hv
      have t2 : (v.view != view) = false := by simpa using hv
      rw [hv] at hview
      clear hs1 hs hv hrw hcx t1 t2
      rw [hcm]
      clear hcm
      clear hln
      by_cases hle : l = []
      · have HSTEP : Hid (s.step view v = ⟨some v, cmx, if v.node ∈ l then l else l ++ [v.node]⟩) := Lib.hid (HSTP.out _ (by rw [HEMP.out.2 hle]; rfl))
        have HBX := HB1
        subst hle
        have tok1 : True := trivial
        obtain ⟨w3, hw3⟩ : ∃ w3, w1.setRow B v.cells.toArray = w3 := ⟨_, rfl⟩
        have HW3 := Lib.hid hw3
        have hq3 : Whole w3 B 31 v.cells := by rw [← hw3]; exact Whole.row (cs := rw0.cells) HBX.out
        have hk3 : Keeps (fun q => q = B) w1 w3 := by rw [← hw3]; exact (Keeps.refl _ w1).setRow _ _ (.inr rfl)
        clear hw3
        obtain ⟨w4, hrun4, hmp4, hk4⟩ := (HMP.out.keep hk3 (fun e => HBM.out e.symm)).put HJM.out v.node HVO.out.node
        have HV4 := Lib.hid (vote_facts (w := w4) (B := wr.heap.size) (t := 31) (v := v) ((HQ1.out.keep hk3 (fun e => by have := HBL.out; omega)).keep hk4 (fun e => by have := HML.out; omega)) w4 (Keeps.refl _ _))
        have hn3 := ((vote_facts (w := w3) (B := wr.heap.size) (t := 31) (v := v) (HQ1.out.keep hk3 (fun e => by have := HBL.out; omega)) w3 (Keeps.refl _ _))).1
        have hc4 := HV4.out.2.2.2.2.1
        have HRUN4 := Lib.hid hrun4
        have HST4 : Hid (ChSt w0 w4 M B (j + 1) (s.step view v)) := Lib.hid (by
          rw [HSTEP.out]
          exact ⟨hmp4, hq3.keep hk4 (fun e => HBM.out e), (HK01.out.trans hk3 (fun q _ e => .inr e)).trans hk4 (fun q _ e => .inl e)⟩)
        clear hmp4 hk4 hq3 hk3 hrun4
        go_wp2_with (first
          | (refine wpList_load_mid (by rfl) 31 _ (by rfl) g (off + j * 37) (by rfl) v.cells _ HRA.out Try.underlying31 rfl HSL.out ?_)
          | (refine wpList_store_row (by rfl) 31 _ _ (by rfl) wr.heap.size v.cells.toArray (by rfl) (by rfl) 31 vote0.cells.toArray HN1.out HSV.out HSE.out HAL.out ?_; rw [HW1.out])
          | (at_len; have _t := tok1; refine wpList_len_n (by rfl) _ (by rfl) M j [] (by rfl) HMP.out ?_; clear tok1)
          | (refine wpList_load_row_w (by rfl) 31 (.tmp 13) (by rfl) wr.heap.size (by rfl) 31 v.cells.toArray (0, 0) _ HQ1.out Try.underlying31 rfl HSV.out ?_)
          | (refine wpList_store_row (by rfl) 31 _ _ (by rfl) B v.cells.toArray (by rfl) (by rfl) 31 rw0.cells.toArray HBX.out HSV.out HSR.out HAL.out ?_; rw [HW3.out])
          | (at_mapUpdate; refine wpList_put_n (by rfl) _ _ _ (by rfl) M (by rfl) v.node (by rfl) (by rfl) w4 HRUN4.out ?_))
        go_roundw
        case rel => exact ⟨j + 1, by omega, by go_num, by rw [HTK.out, HCS.out, ← HCM.out], by rw [HTK.out]; exact HST4.out⟩
        case measure => simp [intOf]; omega
      · have hlp : 0 < l.length := List.length_pos_iff.2 hle
        obtain ⟨b, hb⟩ : ∃ b, s.best = some b := by
          cases hb : s.best with
          | none => exact absurd (HEMP.out.1 hb) hle
          | some b => exact ⟨b, rfl⟩
        obtain rfl := HROW.out b hb
        have HBS := Lib.hid hb
        have t3 : ((l.length : Int) == 0) = false := by simp; omega
        have t4 : ¬ (l.length : Int) = 0 := by omega
        have tok1 : True := trivial
        clear hle hb
        go_wp2_with (first
          | (refine wpList_load_mid (by rfl) 31 _ (by rfl) g (off + j * 37) (by rfl) v.cells _ HRA.out Try.underlying31 rfl HSL.out ?_)
          | (refine wpList_store_row (by rfl) 31 _ _ (by rfl) wr.heap.size v.cells.toArray (by rfl) (by rfl) 31 vote0.cells.toArray HN1.out HSV.out HSE.out HAL.out ?_; rw [HW1.out])
          | (at_len; have _t := tok1; refine wpList_len_n (by rfl) _ (by rfl) M j l (by rfl) HMP.out ?_; clear tok1)
          | (refine wpList_load_row_w (by rfl) 31 (.tmp 13) (by rfl) wr.heap.size (by rfl) 31 v.cells.toArray (0, 0) _ HQ1.out Try.underlying31 rfl HSV.out ?_)
          | (refine wpList_load_row_w (by rfl) 31 (.tmp 10) (by rfl) B (by rfl) 31 b.cells.toArray (0, 0) _ HB1.out Try.underlying31 rfl (size_vote _ HRH.out) ?_))
        ((with_reducible refine (better_any v b w1 HVO.out.head HRH.out).mono ?_); rintro e w2 ⟨rfl, hk12⟩)
        have HK12 := Lib.hid hk12
        have HQ2 := Lib.hid (HQ1.out.keep hk12 (fun e => e))
        have HBX := Lib.hid (HB1.out.keep hk12 (fun e => e))
        obtain ⟨rw0, hrw0⟩ : ∃ r, b = r := ⟨_, rfl⟩
        have HRW0 := Lib.hid hrw0
        rw [hrw0] at HBX HSR
        clear hk12 hview t3 t4 hlp hrw0
        cases hab : above v b with
        | true =>
          have HSTEP : Hid (s.step view v = ⟨some v, cmx, if v.node ∈ l then l else l ++ [v.node]⟩) := Lib.hid (HSTP.out _ (by rw [HBS.out, CS.up, if_pos hab]))
          clear hab
          obtain ⟨w3, hw3⟩ : ∃ w3, w2.setRow B v.cells.toArray = w3 := ⟨_, rfl⟩
          have HW3 := Lib.hid hw3
          have hq3 : Whole w3 B 31 v.cells := by rw [← hw3]; exact Whole.row (cs := rw0.cells) HBX.out
          have hk3 : Keeps (fun q => q = B) w1 w3 := by rw [← hw3]; exact (HK12.out.mono (fun _ _ e => e.elim)).setRow _ _ (.inr rfl)
          clear hw3
          obtain ⟨w4, hrun4, hmp4, hk4⟩ := (HMP.out.keep hk3 (fun e => HBM.out e.symm)).put HJM.out v.node HVO.out.node
          have HV4 := Lib.hid (vote_facts (w := w4) (B := wr.heap.size) (t := 31) (v := v) ((HQ1.out.keep hk3 (fun e => by have := HBL.out; omega)).keep hk4 (fun e => by have := HML.out; omega)) w4 (Keeps.refl _ _))
          have hn3 := ((vote_facts (w := w3) (B := wr.heap.size) (t := 31) (v := v) (HQ1.out.keep hk3 (fun e => by have := HBL.out; omega)) w3 (Keeps.refl _ _))).1
          have hc4 := HV4.out.2.2.2.2.1
          have HRUN4 := Lib.hid hrun4
          have HST4 : Hid (ChSt w0 w4 M B (j + 1) (s.step view v)) := Lib.hid (by
            rw [HSTEP.out]
            exact ⟨hmp4, hq3.keep hk4 (fun e => HBM.out e), (HK01.out.trans hk3 (fun q _ e => .inr e)).trans hk4 (fun q _ e => .inl e)⟩)
          clear hmp4 hk4 hq3 hk3 hrun4
          go_wp2_with (first
            | (refine wpList_load_row_w (by rfl) 31 (.tmp 13) (by rfl) wr.heap.size (by rfl) 31 v.cells.toArray (0, 0) _ HQ2.out Try.underlying31 rfl HSV.out ?_)
            | (refine wpList_store_row (by rfl) 31 _ _ (by rfl) B v.cells.toArray (by rfl) (by rfl) 31 rw0.cells.toArray HBX.out HSV.out HSR.out HAL.out ?_; rw [HW3.out])
            | (at_mapUpdate; refine wpList_put_n (by rfl) _ _ _ (by rfl) M (by rfl) v.node (by rfl) (by rfl) w4 HRUN4.out ?_))
          go_roundw
          case rel => exact ⟨j + 1, by omega, by go_num, by rw [HTK.out, HCS.out, ← HCM.out], by rw [HTK.out]; exact HST4.out⟩
          case measure => simp [intOf]; omega
        | false =>
          have HSTEP : Hid (s.step view v = ⟨some rw0, cmx, if v.node ∈ l then l else l ++ [v.node]⟩) := Lib.hid (HSTP.out _ (by rw [HBS.out, ← HRW0.out, CS.up, if_neg (by rw [hab]; simp)]))
          clear hab
          obtain ⟨w3, hw3⟩ : ∃ w3, w2 = w3 := ⟨_, rfl⟩
          have hq3 : Whole w3 B 31 rw0.cells := by rw [← hw3]; exact HBX.out
          have hk3 : Keeps (fun q => q = B) w1 w3 := by rw [← hw3]; exact HK12.out.mono (fun _ _ e => e.elim)
          subst hw3
          obtain ⟨w4, hrun4, hmp4, hk4⟩ := (HMP.out.keep hk3 (fun e => HBM.out e.symm)).put HJM.out v.node HVO.out.node
          have HV4 := Lib.hid (vote_facts (w := w4) (B := wr.heap.size) (t := 31) (v := v) ((HQ1.out.keep hk3 (fun e => by have := HBL.out; omega)).keep hk4 (fun e => by have := HML.out; omega)) w4 (Keeps.refl _ _))
          have hn3 := ((vote_facts (w := w2) (B := wr.heap.size) (t := 31) (v := v) (HQ1.out.keep hk3 (fun e => by have := HBL.out; omega)) w2 (Keeps.refl _ _))).1
          have hc4 := HV4.out.2.2.2.2.1
          have HRUN4 := Lib.hid hrun4
          have HST4 : Hid (ChSt w0 w4 M B (j + 1) (s.step view v)) := Lib.hid (by
            rw [HSTEP.out]
            exact ⟨hmp4, hq3.keep hk4 (fun e => HBM.out e), (HK01.out.trans hk3 (fun q _ e => .inr e)).trans hk4 (fun q _ e => .inl e)⟩)
          clear hmp4 hk4 hq3 hk3 hrun4
          go_wp2_with (first
            | (at_mapUpdate; refine wpList_put_n (by rfl) _ _ _ (by rfl) M (by rfl) v.node (by rfl) (by rfl) w4 HRUN4.out ?_))
          go_roundw
          case rel => exact ⟨j + 1, by omega, by go_num, by rw [HTK.out, HCS.out, ← HCM.out], by rw [HTK.out]; exact HST4.out⟩
          case measure => simp [intOf]; omega
    · obtain rfl : j = n := by omega
      have hjn : ¬ (j : Int) < (j : Int) := by omega
      have HFULL : Hid (csOf view vs = s) := Lib.hid (by rw [← hs, List.take_of_length_le (by rw [HN.out]; exact Nat.le_refl _)])
      obtain ⟨l, hln⟩ : ∃ l, s.nodes = l := ⟨_, rfl⟩
      obtain ⟨rw0, hrw⟩ : ∃ r, s.row = r := ⟨_, rfl⟩
      obtain ⟨cm, hcm⟩ : ∃ x, s.commit = x := ⟨_, rfl⟩
      have HRH : Hid (rw0.head.length = 32) := Lib.hid (by rw [← hrw]; exact CS.row_head HG.out)
      have HMP : Hid (MapN wr M j l) := Lib.hid (by rw [← hln]; exact HST1.out.map)
      have HB1 : Hid (Whole wr B 31 rw0.cells) := Lib.hid (by rw [← hrw]; exact HST1.out.best)
      have HRR : Hid (Whole wr w.heap.size 31 vote0.cells) := Lib.hid (HR0.out.keep HST1.out.keep (fun e => by have := HMB.out; omega))
      have HCH : Hid (chOf view nodes vs = if (l.length : Int) < maj nodes then (vote0, 0, false) else (rw0, cm, true)) := Lib.hid (by unfold chOf; rw [HFULL.out, hln, hrw, hcm])
      have tok1 : True := trivial
      rw [hcm]
      clear hs hln hrw hcm
      go_wp2_with (at_len; have _t := tok1; refine wpList_len_n (by rfl) _ (by rfl) M j l (by rfl) HMP.out ?_; clear tok1)
      ((with_reducible refine (majority_any nodes wr hnod).mono ?_); rintro e w2 ⟨rfl, rfl⟩)
      obtain ⟨m, hm⟩ : ∃ m, maj nodes = m := ⟨_, rfl⟩
      rw [hm] at HCH ⊢
      clear hm
      by_cases hq : (l.length : Int) < m
      · have HC2 : Hid (chOf view nodes vs = (vote0, 0, false)) := Lib.hid (by rw [HCH.out, if_pos hq])
        have HEND : Hid (Same w (w2.setRow w.heap.size vote0.cells.toArray) ∧ Whole (w2.setRow w.heap.size vote0.cells.toArray) w.heap.size 31 vote0.cells) := Lib.hid ⟨HSW.out.setRow _ _ (.inl (Nat.le_refl _)), HRR.out.row⟩
        go_wp2_with (first
          | (refine wpList_buildTo (by rfl) 31 _ (by rfl) _ (by rfl) vote0.cells.toArray (by kernel_rfl) ?_)
          | (refine wpList_store_row (by rfl) 31 _ _ (by rfl) w.heap.size vote0.cells.toArray (by rfl) (by rfl) 31 vote0.cells.toArray HRR.out (size_vote _ vote0_head) rfl (vote_all _) ?_))
        refine bodyPost_ret (v := .tuple #[.agg vote0.cells.toArray, .int .u64 0, .bool false]) (results_row_tmp2 (p := 6) (u := 7) (v := 8) (ty := 31) rfl _ _ w.heap.size 31 _ (0, 0) _ (by rfl) HEND.out.2 Try.underlying31 rfl (size_vote _ vote0_head)) rfl
          ⟨HEND.out.1, by rw [HC2.out]⟩
      · have HC2 : Hid (chOf view nodes vs = (rw0, cm, true)) := Lib.hid (by rw [HCH.out, if_neg hq])
        have HEND : Hid (Same w (w2.setRow w.heap.size rw0.cells.toArray) ∧ Whole (w2.setRow w.heap.size rw0.cells.toArray) w.heap.size 31 rw0.cells) := Lib.hid ⟨HSW.out.setRow _ _ (.inl (Nat.le_refl _)), HRR.out.row⟩
        go_wp2_with (first
          | (refine wpList_load_row_w (by rfl) 31 (.tmp 10) (by rfl) B (by rfl) 31 rw0.cells.toArray (0, 0) _ HB1.out Try.underlying31 rfl (size_vote _ HRH.out) ?_)
          | (refine wpList_store_row (by rfl) 31 _ _ (by rfl) w.heap.size rw0.cells.toArray (by rfl) (by rfl) 31 vote0.cells.toArray HRR.out (size_vote _ HRH.out) (size_two _ _ vote0_head HRH.out) (vote_all _) ?_))
        refine bodyPost_ret (v := .tuple #[.agg rw0.cells.toArray, .int .u64 cm, .bool true]) (results_row_tmp2 (p := 6) (u := 7) (v := 8) (ty := 31) rfl _ _ w.heap.size 31 _ (0, 0) _ (by rfl) HEND.out.2 Try.underlying31 rfl (size_vote _ HRH.out)) rfl
          ⟨HEND.out.1, by rw [HC2.out]⟩
end Go.Proofs.Yteidjpnmfmcfkaa
