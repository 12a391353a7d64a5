/- A region that draws its order, whose operations leave what was there as it was: walked operation by operation, whatever the order. No program is named here. -/
import Derived.Test.YtoimhniijeafaaaKit
import Derived.Orders
import Derived.OrdersHeld
import Derived.RegionTactic
namespace Go.Proofs.Ytoimhniijeafaaa
open Go.RowKit
set_option linter.unusedVariables false

section
variable {P : Program} {ops : Array Oper} {Q : Exit → Act → World → Prop} {md : Region.Mode}

theorem unlisted_set : ∀ (l : List Bool) (i : Nat) (hi : i < l.length), l[i] = false → ((l.set i true).filter (· == false)).length + 1 = (l.filter (· == false)).length
  | [], i, hi, _ => by simp at hi
  | b :: l, 0, hi, hb => by simp at hb; subst hb; simp
  | b :: l, i + 1, hi, hb => by
    have := unlisted_set l i (by simpa using hi) (by simpa using hb)
    simp only [List.set_cons_succ, List.filter_cons]
    split
    · simp only [List.length_cons]; omega
    · exact this
/-- What a walk in whatever order keeps. -/
theorem wpAny_inv (Inv : Array Bool → Act → World → Prop)
    (hstep : ∀ listed a w i, Inv listed a w → i ∈ Region.ready md ops listed → wpOp P ops Q i (fun a' w' => Inv (listed.setIfInBounds i true) a' w') a w)
    (hend : ∀ listed a w, Inv listed a w → Region.ready md ops listed = [] → Q .normal a w) :
    ∀ (fuel : Nat) (listed : Array Bool) (a : Act) (w : World), Inv listed a w → (listed.toList.filter (· == false)).length ≤ fuel → wpAny P md ops Q fuel listed a w
  | 0, listed, a, w, h, hf => by
    have hr : Region.ready md ops listed = [] := by
      apply List.eq_nil_iff_forall_not_mem.2
      intro i hi
      have h1 := (mem_ready.1 hi).1
      have h2 : (listed.toList.filter (· == false)) = [] := List.length_eq_zero_iff.1 (by omega)
      rw [List.filter_eq_nil_iff] at h2
      by_cases hl : i < listed.size
      · have h3 : listed[i] ∈ listed.toList := by simp
        have h4 := h2 _ h3
        simp [hl] at h1
        rw [h1] at h4
        simp at h4
      · simp [Array.getElem?_eq_none (by omega : listed.size ≤ i)] at h1
    exact ⟨hr, hend _ _ _ h hr⟩
  | fuel + 1, listed, a, w, h, hf => by
    refine ⟨hend _ _ _ h, fun i hi => wpOp_mono (fun a' w' h' => ?_) (hstep _ _ _ _ h hi)⟩
    refine wpAny_inv Inv hstep hend fuel _ a' w' h' ?_
    have h1 := (mem_ready.1 hi).1
    have hl : i < listed.size := by
      by_cases hl : i < listed.size
      · exact hl
      · simp [Array.getElem?_eq_none (by omega : listed.size ≤ i)] at h1
    simp [hl] at h1
    have := unlisted_set listed.toList i (by simpa using hl) (by simpa using h1)
    simp only [Array.toList_setIfInBounds]
    omega

/-- The operations that number i waits for. -/
def depsOf (md : Region.Mode) (ops : Array Oper) (i : Nat) : List Nat := ((ops[i]?).map fun o => (o.after.toList.filter (Region.binds md)).map (·.on)).getD []
def dstOf (ops : Array Oper) (i : Nat) : Option Tmp := (ops[i]?).bind (·.dst)
/-- Each waits for earlier ones alone; no two give the same temporary; each gives one that is there. -/
def planned (md : Region.Mode) (ops : Array Oper) (n : Nat) : Bool :=
  (List.range ops.size).all fun i => (depsOf md ops i).all (· < i) && (match dstOf ops i with | none => true | some d => decide (d < n) && (List.range ops.size).all fun j => i == j || dstOf ops j != some d)

theorem planned_deps {n : Nat} (h : planned md ops n = true) {i : Nat} (hi : i < ops.size) : ∀ j ∈ depsOf md ops i, j < i := by
  unfold planned at h
  rw [List.all_eq_true] at h
  have h1 := h i (List.mem_range.2 hi)
  rw [Bool.and_eq_true, List.all_eq_true] at h1
  intro j hj
  simpa using h1.1 j hj
theorem planned_dst {n : Nat} (h : planned md ops n = true) {i d : Nat} (hi : i < ops.size) (hd : dstOf ops i = some d) : d < n ∧ ∀ j, j < ops.size → i ≠ j → dstOf ops j ≠ some d := by
  unfold planned at h
  rw [List.all_eq_true] at h
  have h1 := h i (List.mem_range.2 hi)
  rw [Bool.and_eq_true, hd] at h1
  have h2 := h1.2
  simp only [Bool.and_eq_true, decide_eq_true_eq, List.all_eq_true] at h2
  refine ⟨h2.1, fun j hj hij => ?_⟩
  have h3 := h2.2 j (List.mem_range.2 hj)
  simp only [Bool.or_eq_true, beq_iff_eq, bne_iff_ne] at h3
  rcases h3 with h3 | h3
  · exact absurd h3 hij
  · exact h3
theorem all_listed {n : Nat} (h : planned md ops n = true) {listed : Array Bool} (hs : listed.size = ops.size) (hr : Region.ready md ops listed = []) : ∀ i, i < ops.size → listed.getD i false = true := by
  intro i
  induction i using Nat.strongRecOn with
  | _ i ih =>
    intro hi
    cases hl : listed.getD i false with
    | true => rfl
    | false =>
      exfalso
      have hm : i ∈ Region.ready md ops listed := by
        rw [mem_ready]
        refine ⟨by simpa [hs ▸ hi] using hl, ops[i], by simp [hi], fun e he hb => ?_⟩
        have h1 : e.on ∈ depsOf md ops i := by
          unfold depsOf
          simp only [Array.getElem?_eq_getElem hi, Option.map_some, Option.getD_some, List.mem_map, List.mem_filter]
          exact ⟨e, ⟨by simpa using he, hb⟩, rfl⟩
        have h2 := planned_deps h hi _ h1
        exact ih _ h2 (by omega)
      rw [hr] at hm
      simp at hm

/-- What operation number i has to do, whatever came ahead of it. -/
def OpPlan (P : Program) (md : Region.Mode) (ops : Array Oper) (Q : Exit → Act → World → Prop) (V : Nat → World → Value → Prop) (a0 : Act) (w0 : World) (i : Nat) (o : Oper) : Prop :=
  ∀ (a : Act) (w : World) (K : Act → World → Prop), Same w0 w → (∀ j ∈ depsOf md ops i, ∀ d, dstOf ops j = some d → V j w (a.tmps.getD d undef)) → (∀ k, (∀ j, j < ops.size → dstOf ops j ≠ some k) → a.tmps.getD k undef = a0.tmps.getD k undef) →
    (∀ v w', Same w w' → V i w' v → K (a.put o.dst v) w') → if Region.wanted o (yielded ops a.tmps) = true then Oper.wp P o a w K Q else K (a.put o.dst undef) w
def AllPlan (P : Program) (md : Region.Mode) (ops : Array Oper) (Q : Exit → Act → World → Prop) (V : Nat → World → Value → Prop) (a0 : Act) (w0 : World) : Nat → List Oper → Prop
  | _, [] => True
  | i, o :: r => OpPlan P md ops Q V a0 w0 i o ∧ AllPlan P md ops Q V a0 w0 (i + 1) r
theorem AllPlan.get {V : Nat → World → Value → Prop} {a0 : Act} {w0 : World} : ∀ (l : List Oper) (k : Nat), AllPlan P md ops Q V a0 w0 k l → ∀ i o, l[i]? = some o → OpPlan P md ops Q V a0 w0 (k + i) o
  | [], k, _, i, o, h => by simp at h
  | o' :: r, k, h, 0, o, ho => by
    simp at ho; subst ho; exact h.1
  | o' :: r, k, h, i + 1, o, ho => by
    have := AllPlan.get r (k + 1) h.2 i o (by simpa using ho)
    rw [show k + (i + 1) = k + 1 + i from by omega]
    exact this

theorem wp_region_plan (V : Nat → World → Value → Prop) (id : Nat) (a0 : Act) (w0 : World) (n : Nat) (hm : P.follows .mixedOrders = true) (hn : a0.tmps.size = n) (hp : planned .any ops n = true)
    (hmono : ∀ i w w' v, V i w v → Same w w' → V i w' v) (hop : AllPlan P .any ops Q V a0 w0 0 ops.toList)
    (hend : ∀ a w, Same w0 w → a.defers = a0.defers → a.tmps.size = n → (∀ j d, j < ops.size → dstOf ops j = some d → V j w (a.tmps.getD d undef)) → (∀ k, (∀ j, j < ops.size → dstOf ops j ≠ some k) → a.tmps.getD k undef = a0.tmps.getD k undef) → Q .normal a w) :
    (Code.region id ops true).wp P Q a0 w0 := by
  refine wp_region_any hm ?_
  refine wpAny_inv (fun listed a w => listed.size = ops.size ∧ Same w0 w ∧ a.defers = a0.defers ∧ a.tmps.size = n ∧ (∀ k, (∀ j, j < ops.size → dstOf ops j ≠ some k) → a.tmps.getD k undef = a0.tmps.getD k undef) ∧
      (∀ j d, j < ops.size → dstOf ops j = some d → listed.getD j false = true → V j w (a.tmps.getD d undef))) ?_ ?_ ops.size (Array.replicate ops.size false) a0 _ ?_ ?_
  · intro listed a w i ⟨h1, h2, h3, h4, h5, h6⟩ hi
    obtain ⟨hl, o, ho, hdep⟩ := mem_ready.1 hi
    have hio : i < ops.size := (Array.getElem?_eq_some_iff.1 ho).1
    have hpl : OpPlan P .any ops Q V a0 w0 i o := by
      have := AllPlan.get ops.toList 0 hop i o (by simpa using ho)
      simpa using this
    refine wpOp_step ho fun K' hK => ?_
    refine hpl a w K' h2 (fun j hj d hd => ?_) h5 fun v w' hs hv => hK _ _ ?_
    · have hji := planned_deps hp hio j hj
      refine h6 j d (by omega) hd ?_
      unfold depsOf at hj
      simp only [ho, Option.map_some, Option.getD_some, List.mem_map, List.mem_filter] at hj
      obtain ⟨e, ⟨he, hb⟩, rfl⟩ := hj
      exact hdep e (by simpa using he) hb
    · have hget : ∀ k, o.dst ≠ some k → (a.put o.dst v).tmps.getD k undef = a.tmps.getD k undef := by
        intro k hk
        unfold Act.put
        cases hd : o.dst with
        | none => rfl
        | some d =>
          have hdk : d ≠ k := fun e => hk (by rw [hd, e])
          simp only [Array.getD_eq_getD_getElem?, Array.getElem?_setIfInBounds_ne hdk]
      have hdo : dstOf ops i = o.dst := by simp [dstOf, ho]
      refine ⟨by simpa using h1, h2.trans hs (fun _ _ e => e), ?_, ?_, fun k hk => ?_, fun j d hj hd hlj => ?_⟩
      · unfold Act.put; cases o.dst <;> exact h3
      · unfold Act.put
        cases o.dst with
        | none => exact h4
        | some d => simpa using h4
      · rw [hget k (fun e => hk i hio (by rw [hdo, e]))]
        exact h5 k hk
      · by_cases hij : i = j
        · subst hij
          rw [hdo] at hd
          have hdn := (planned_dst hp hio (by rw [hdo, hd])).1
          have : (a.put o.dst v).tmps.getD d undef = v := by
            unfold Act.put
            rw [hd]
            simp [h4, hdn]
          rw [this]
          exact hv
        · have hne : o.dst ≠ some d := fun e => (planned_dst hp hio (by rw [hdo, e])).2 j hj hij hd
          rw [hget d hne]
          refine hmono j w w' _ (h6 j d hj hd ?_) hs
          simpa [Array.getElem?_setIfInBounds_ne hij] using hlj
  · intro listed a w ⟨h1, h2, h3, h4, h5, h6⟩ hr
    exact hend a w h2 h3 h4 (fun j d hj hd => h6 j d hj hd (all_listed hp h1 hr j hj)) h5
  · exact ⟨by simp, Keeps.drew (Keeps.refl _ _), rfl, hn, fun _ _ => rfl, fun j d hj hd hl => by simp [hj] at hl⟩
  · simp

theorem plan_do {o : Oper} {y : Nat → Option Bool} {X Y : Prop} (hw : Region.wanted o y = true) (h : X) : if Region.wanted o y = true then X else Y := by rw [if_pos hw]; exact h
theorem plan_skip {o : Oper} {y : Nat → Option Bool} {X Y : Prop} (hw : Region.wanted o y = false) (h : Y) : if Region.wanted o y = true then X else Y := by rw [if_neg (by rw [hw]; simp)]; exact h
/-- An operation whose value is known. -/
theorem plan_yield {V : Nat → World → Value → Prop} {a : Act} {w : World} {K : Act → World → Prop} {i : Nat} {o : Oper} (r : Value) (hr : (execOp a.eval o).run P w = .ok (.value r) w) (hv : V i w r)
    (hK : ∀ v w', Same w w' → V i w' v → K (a.put o.dst v) w') : Oper.wp P o a w K Q := by
  unfold Oper.wp
  rw [hr]
  exact hK r w (Keeps.refl _ _) hv
/-- A call by its contract. -/
theorem plan_call {a : Act} {w : World} {K : Act → World → Prop} {o : Oper} (f : FuncId) (args : Array Value) (hr : (execOp a.eval o).run P w = .ok (.enter f args) w)
    (hc : Calls P f args w fun e w' => ∃ v, e = .returned v ∧ K (a.put o.dst v) w') : Oper.wp P o a w K Q := by
  unfold Oper.wp
  rw [hr]
  exact hc.mono fun e w' ⟨v, he, h⟩ => by subst he; exact h
end

end Go.Proofs.Ytoimhniijeafaaa
