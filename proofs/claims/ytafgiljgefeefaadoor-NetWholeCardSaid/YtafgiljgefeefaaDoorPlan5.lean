/- As Plan4, where each call of the chain hands its value on (an append onto a row that was there): its first operations in whatever order, the others one behind the other. No program is named here. -/
import Derived.Test.YtafgiljgefeefaaDoorKit
import Derived.Orders
import Derived.OrdersHeld
import Derived.RegionTactic
import Derived.Test.YtafgiljgefeefaaDoorApp
namespace Go.Proofs.YtafgiljgefeefaaDoor
open Go.RowKit
set_option linter.unusedVariables false

section
variable {P : Program} {ops : Array Oper} {Q : Exit → Act → World → Prop} {md : Region.Mode}

theorem unlisted_set : ∀ (l : List Bool) (i : Nat) (hi : i < l.length), l[i] = false → ((l.set i true).filter (· == false)).length + 1 = (l.filter (· == false)).length
  | [], i, hi, _ => by simp at hi
  | b :: l, 0, hi, hb => by simp at hb; subst hb; simp
  | b :: l, i + 1, hi, hb => by
    have := unlisted_set l i (by simpa using hi) (by simpa using hb)
    simp only [List.set_cons_succ, List.filter_cons]
    split
    · simp only [List.length_cons]; omega
    · exact this
/-- What a walk in whatever order keeps. -/
theorem wpAny_inv (Inv : Array Bool → Act → World → Prop)
    (hstep : ∀ listed a w i, Inv listed a w → i ∈ Region.ready md ops listed → wpOp P ops Q i (fun a' w' => Inv (listed.setIfInBounds i true) a' w') a w)
    (hend : ∀ listed a w, Inv listed a w → Region.ready md ops listed = [] → Q .normal a w) :
    ∀ (fuel : Nat) (listed : Array Bool) (a : Act) (w : World), Inv listed a w → (listed.toList.filter (· == false)).length ≤ fuel → wpAny P md ops Q fuel listed a w
  | 0, listed, a, w, h, hf => by
    have hr : Region.ready md ops listed = [] := by
      apply List.eq_nil_iff_forall_not_mem.2
      intro i hi
      have h1 := (mem_ready.1 hi).1
      have h2 : (listed.toList.filter (· == false)) = [] := List.length_eq_zero_iff.1 (by omega)
      rw [List.filter_eq_nil_iff] at h2
      by_cases hl : i < listed.size
      · have h3 : listed[i] ∈ listed.toList := by simp
        have h4 := h2 _ h3
        simp [hl] at h1
        rw [h1] at h4
        simp at h4
      · simp [Array.getElem?_eq_none (by omega : listed.size ≤ i)] at h1
    exact ⟨hr, hend _ _ _ h hr⟩
  | fuel + 1, listed, a, w, h, hf => by
    refine ⟨hend _ _ _ h, fun i hi => wpOp_mono (fun a' w' h' => ?_) (hstep _ _ _ _ h hi)⟩
    refine wpAny_inv Inv hstep hend fuel _ a' w' h' ?_
    have h1 := (mem_ready.1 hi).1
    have hl : i < listed.size := by
      by_cases hl : i < listed.size
      · exact hl
      · simp [Array.getElem?_eq_none (by omega : listed.size ≤ i)] at h1
    simp [hl] at h1
    have := unlisted_set listed.toList i (by simpa using hl) (by simpa using h1)
    simp only [Array.toList_setIfInBounds]
    omega

/-- The operations that number i waits for. -/
def depsOf (md : Region.Mode) (ops : Array Oper) (i : Nat) : List Nat := ((ops[i]?).map fun o => (o.after.toList.filter (Region.binds md)).map (·.on)).getD []
def dstOf (ops : Array Oper) (i : Nat) : Option Tmp := (ops[i]?).bind (·.dst)
/-- Each waits for earlier ones alone; no two give the same temporary; each gives one that is there. -/
def planned (md : Region.Mode) (ops : Array Oper) (n : Nat) : Bool :=
  (List.range ops.size).all fun i => (depsOf md ops i).all (· < i) && (match dstOf ops i with | none => true | some d => decide (d < n) && (List.range ops.size).all fun j => i == j || dstOf ops j != some d)

theorem planned_deps {n : Nat} (h : planned md ops n = true) {i : Nat} (hi : i < ops.size) : ∀ j ∈ depsOf md ops i, j < i := by
  unfold planned at h
  rw [List.all_eq_true] at h
  have h1 := h i (List.mem_range.2 hi)
  rw [Bool.and_eq_true, List.all_eq_true] at h1
  intro j hj
  simpa using h1.1 j hj
theorem planned_dst {n : Nat} (h : planned md ops n = true) {i d : Nat} (hi : i < ops.size) (hd : dstOf ops i = some d) : d < n ∧ ∀ j, j < ops.size → i ≠ j → dstOf ops j ≠ some d := by
  unfold planned at h
  rw [List.all_eq_true] at h
  have h1 := h i (List.mem_range.2 hi)
  rw [Bool.and_eq_true, hd] at h1
  have h2 := h1.2
  simp only [Bool.and_eq_true, decide_eq_true_eq, List.all_eq_true] at h2
  refine ⟨h2.1, fun j hj hij => ?_⟩
  have h3 := h2.2 j (List.mem_range.2 hj)
  simp only [Bool.or_eq_true, beq_iff_eq, bne_iff_ne] at h3
  rcases h3 with h3 | h3
  · exact absurd h3 hij
  · exact h3
theorem all_listed {n : Nat} (h : planned md ops n = true) {listed : Array Bool} (hs : listed.size = ops.size) (hr : Region.ready md ops listed = []) : ∀ i, i < ops.size → listed.getD i false = true := by
  intro i
  induction i using Nat.strongRecOn with
  | _ i ih =>
    intro hi
    cases hl : listed.getD i false with
    | true => rfl
    | false =>
      exfalso
      have hm : i ∈ Region.ready md ops listed := by
        rw [mem_ready]
        refine ⟨by simpa [hs ▸ hi] using hl, ops[i], by simp [hi], fun e he hb => ?_⟩
        have h1 : e.on ∈ depsOf md ops i := by
          unfold depsOf
          simp only [Array.getElem?_eq_getElem hi, Option.map_some, Option.getD_some, List.mem_map, List.mem_filter]
          exact ⟨e, ⟨by simpa using he, hb⟩, rfl⟩
        have h2 := planned_deps h hi _ h1
        exact ih _ h2 (by omega)
      rw [hr] at hm
      simp at hm

/-- What operation number i has to do, whatever came ahead of it. -/
def OpPlan (P : Program) (md : Region.Mode) (ops : Array Oper) (Q : Exit → Act → World → Prop) (V : Nat → World → Value → Prop) (a0 : Act) (w0 : World) (i : Nat) (o : Oper) : Prop :=
  ∀ (a : Act) (w : World) (K : Act → World → Prop), Same w0 w → (∀ j ∈ depsOf md ops i, ∀ d, dstOf ops j = some d → V j w (a.tmps.getD d undef)) → (∀ k, (∀ j, j < ops.size → dstOf ops j ≠ some k) → a.tmps.getD k undef = a0.tmps.getD k undef) →
    (∀ v w', Same w w' → V i w' v → K (a.put o.dst v) w') → if Region.wanted o (yielded ops a.tmps) = true then Oper.wp P o a w K Q else K (a.put o.dst undef) w
def AllPlan (P : Program) (md : Region.Mode) (ops : Array Oper) (Q : Exit → Act → World → Prop) (V : Nat → World → Value → Prop) (a0 : Act) (w0 : World) : Nat → List Oper → Prop
  | _, [] => True
  | i, o :: r => OpPlan P md ops Q V a0 w0 i o ∧ AllPlan P md ops Q V a0 w0 (i + 1) r
theorem AllPlan.get {V : Nat → World → Value → Prop} {a0 : Act} {w0 : World} : ∀ (l : List Oper) (k : Nat), AllPlan P md ops Q V a0 w0 k l → ∀ i o, l[i]? = some o → OpPlan P md ops Q V a0 w0 (k + i) o
  | [], k, _, i, o, h => by simp at h
  | o' :: r, k, h, 0, o, ho => by
    simp at ho; subst ho; exact h.1
  | o' :: r, k, h, i + 1, o, ho => by
    have := AllPlan.get r (k + 1) h.2 i o (by simpa using ho)
    rw [show k + (i + 1) = k + 1 + i from by omega]
    exact this

theorem wp_region_plan (V : Nat → World → Value → Prop) (id : Nat) (a0 : Act) (w0 : World) (n : Nat) (hm : P.follows .mixedOrders = true) (hn : a0.tmps.size = n) (hp : planned .any ops n = true)
    (hmono : ∀ i w w' v, V i w v → Same w w' → V i w' v) (hop : AllPlan P .any ops Q V a0 w0 0 ops.toList)
    (hend : ∀ a w, Same w0 w → a.defers = a0.defers → a.tmps.size = n → (∀ j d, j < ops.size → dstOf ops j = some d → V j w (a.tmps.getD d undef)) → (∀ k, (∀ j, j < ops.size → dstOf ops j ≠ some k) → a.tmps.getD k undef = a0.tmps.getD k undef) → Q .normal a w) :
    (Code.region id ops true).wp P Q a0 w0 := by
  refine wp_region_any hm ?_
  refine wpAny_inv (fun listed a w => listed.size = ops.size ∧ Same w0 w ∧ a.defers = a0.defers ∧ a.tmps.size = n ∧ (∀ k, (∀ j, j < ops.size → dstOf ops j ≠ some k) → a.tmps.getD k undef = a0.tmps.getD k undef) ∧
      (∀ j d, j < ops.size → dstOf ops j = some d → listed.getD j false = true → V j w (a.tmps.getD d undef))) ?_ ?_ ops.size (Array.replicate ops.size false) a0 _ ?_ ?_
  · intro listed a w i ⟨h1, h2, h3, h4, h5, h6⟩ hi
    obtain ⟨hl, o, ho, hdep⟩ := mem_ready.1 hi
    have hio : i < ops.size := (Array.getElem?_eq_some_iff.1 ho).1
    have hpl : OpPlan P .any ops Q V a0 w0 i o := by
      have := AllPlan.get ops.toList 0 hop i o (by simpa using ho)
      simpa using this
    refine wpOp_step ho fun K' hK => ?_
    refine hpl a w K' h2 (fun j hj d hd => ?_) h5 fun v w' hs hv => hK _ _ ?_
    · have hji := planned_deps hp hio j hj
      refine h6 j d (by omega) hd ?_
      unfold depsOf at hj
      simp only [ho, Option.map_some, Option.getD_some, List.mem_map, List.mem_filter] at hj
      obtain ⟨e, ⟨he, hb⟩, rfl⟩ := hj
      exact hdep e (by simpa using he) hb
    · have hget : ∀ k, o.dst ≠ some k → (a.put o.dst v).tmps.getD k undef = a.tmps.getD k undef := by
        intro k hk
        unfold Act.put
        cases hd : o.dst with
        | none => rfl
        | some d =>
          have hdk : d ≠ k := fun e => hk (by rw [hd, e])
          simp only [Array.getD_eq_getD_getElem?, Array.getElem?_setIfInBounds_ne hdk]
      have hdo : dstOf ops i = o.dst := by simp [dstOf, ho]
      refine ⟨by simpa using h1, h2.trans hs (fun _ _ e => e), ?_, ?_, fun k hk => ?_, fun j d hj hd hlj => ?_⟩
      · unfold Act.put; cases o.dst <;> exact h3
      · unfold Act.put
        cases o.dst with
        | none => exact h4
        | some d => simpa using h4
      · rw [hget k (fun e => hk i hio (by rw [hdo, e]))]
        exact h5 k hk
      · by_cases hij : i = j
        · subst hij
          rw [hdo] at hd
          have hdn := (planned_dst hp hio (by rw [hdo, hd])).1
          have : (a.put o.dst v).tmps.getD d undef = v := by
            unfold Act.put
            rw [hd]
            simp [h4, hdn]
          rw [this]
          exact hv
        · have hne : o.dst ≠ some d := fun e => (planned_dst hp hio (by rw [hdo, e])).2 j hj hij hd
          rw [hget d hne]
          refine hmono j w w' _ (h6 j d hj hd ?_) hs
          simpa [Array.getElem?_setIfInBounds_ne hij] using hlj
  · intro listed a w ⟨h1, h2, h3, h4, h5, h6⟩ hr
    exact hend a w h2 h3 h4 (fun j d hj hd => h6 j d hj hd (all_listed hp h1 hr j hj)) h5
  · exact ⟨by simp, Keeps.drew (Keeps.refl _ _), rfl, hn, fun _ _ => rfl, fun j d hj hd hl => by simp [hj] at hl⟩
  · simp

theorem plan_do {o : Oper} {y : Nat → Option Bool} {X Y : Prop} (hw : Region.wanted o y = true) (h : X) : if Region.wanted o y = true then X else Y := by rw [if_pos hw]; exact h
theorem plan_skip {o : Oper} {y : Nat → Option Bool} {X Y : Prop} (hw : Region.wanted o y = false) (h : Y) : if Region.wanted o y = true then X else Y := by rw [if_neg (by rw [hw]; simp)]; exact h
/-- An operation whose value is known. -/
theorem plan_yield {V : Nat → World → Value → Prop} {a : Act} {w : World} {K : Act → World → Prop} {i : Nat} {o : Oper} (r : Value) (hr : (execOp a.eval o).run P w = .ok (.value r) w) (hv : V i w r)
    (hK : ∀ v w', Same w w' → V i w' v → K (a.put o.dst v) w') : Oper.wp P o a w K Q := by
  unfold Oper.wp
  rw [hr]
  exact hK r w (Keeps.refl _ _) hv
/-- A call by its contract. -/
theorem plan_call {a : Act} {w : World} {K : Act → World → Prop} {o : Oper} (f : FuncId) (args : Array Value) (hr : (execOp a.eval o).run P w = .ok (.enter f args) w)
    (hc : Calls P f args w fun e w' => ∃ v, e = .returned v ∧ K (a.put o.dst v) w') : Oper.wp P o a w K Q := by
  unfold Oper.wp
  rw [hr]
  exact hc.mono fun e w' ⟨v, he, h⟩ => by subst he; exact h
end

end Go.Proofs.YtafgiljgefeefaaDoor
namespace Go.Proofs.YtafgiljgefeefaaDoor
open Go.RowKit
set_option linter.unusedVariables false

/-- A slice that reads as bytes and can be made a string. -/
def Reads (w : World) (v : Value) (b : List UInt8) : Prop := ∃ ao c, v = .slice ao b.length c ∧ Bytes w v b ∧ (∀ a, ao = some a → b ≠ [] → a.spot = none) ∧ b.length ≤ c
theorem Reads.same {w w' : World} {v : Value} {b : List UInt8} (h : Reads w v b) (k : Same w w') : Reads w' v b := by
  obtain ⟨ao, c, e, h1, h2⟩ := h
  exact ⟨ao, c, e, h1.same k, h2⟩
theorem Reads.of_own {w : World} {base : Nat} {e : TypeId} {v : Value} {b : List UInt8} {n : Nat} (h : w.ownsRow base e 1 v n (u8s b)) (hn : b.length = n) : Reads w v b := by
  subst hn
  obtain ⟨ao, c, rfl⟩ := (Bytes.of_own h).form
  refine ⟨ao, c, rfl, Bytes.of_own h, fun a e _ => own_spot h a _ _ (by rw [e]), ?_⟩
  rcases h.2 with ⟨e, h0⟩ | ⟨g, cp, cur, e, _, _, h2, _⟩
  · omega
  · simp only [Value.slice.injEq] at e; omega
theorem Reads.nil (w : World) (ao : Option Addr) (c : Nat) : Reads w (.slice ao 0 c) [] := ⟨ao, c, rfl, Bytes.nil _ _ _, fun _ _ h => absurd rfl h, Nat.zero_le _⟩

inductive Spec where
  | is (v : Value)
  | reads (b : List UInt8)
  | any
def Spec.holds (s : Spec) (w : World) (v : Value) : Prop :=
  match s with
  | .is u => v = u
  | .reads b => Reads w v b
  | .any => True
theorem Spec.holds.same {s : Spec} {w w' : World} {v : Value} (h : s.holds w v) (k : Same w w') : s.holds w' v := by
  cases s with
  | is u => exact h
  | reads b => exact Reads.same h k
  | any => trivial

section
variable {P : Program} {ops : Array Oper} {Q : Exit → Act → World → Prop}

def plannedD (D : List (List Nat)) (T : List (Option Tmp)) (n : Nat) : Bool :=
  (List.range T.length).all fun i => (D.getD i []).all (· < i) && (match T.getD i none with | none => true | some d => decide (d < n) && (List.range T.length).all fun j => i == j || T.getD j none != some d)

/-- What operation number i has to do. -/
def OpDo (P : Program) (ops : Array Oper) (Q : Exit → Act → World → Prop) (D : List (List Nat)) (T : List (Option Tmp)) (S : List Spec) (a0 : Act) (w0 : World) (i : Nat) (o : Oper) : Prop :=
  ∀ (a : Act) (w : World) (K : Act → World → Prop), Same w0 w → (∀ j ∈ D.getD i [], ∀ d, T.getD j none = some d → (S.getD j .any).holds w (a.tmps[d]?.getD undef)) → (∀ k, some k ∉ T → a.tmps[k]?.getD undef = a0.tmps[k]?.getD undef) →
    (∀ v w', Same w w' → (S.getD i .any).holds w' v → K (a.put o.dst v) w') → if Region.wanted o (yielded ops a.tmps) = true then Oper.wp P o a w K Q else K (a.put o.dst undef) w
def AllDo (P : Program) (ops : Array Oper) (Q : Exit → Act → World → Prop) (D : List (List Nat)) (T : List (Option Tmp)) (S : List Spec) (a0 : Act) (w0 : World) : Nat → List Oper → Prop
  | _, [] => True
  | i, o :: r => OpDo P ops Q D T S a0 w0 i o ∧ AllDo P ops Q D T S a0 w0 (i + 1) r

theorem eval_tmp (a : Act) (k : Nat) : a.eval (.tmp k) = a.tmps[k]?.getD undef := by simp [Act.eval]
theorem map_range_getD {α : Type} {f : Nat → α} {n : Nat} {l : List α} {d : α} (h : (List.range n).map f = l) {i : Nat} (hi : i < n) : l.getD i d = f i := by
  rw [← h]; simp [hi]

theorem wp_region_do (D : List (List Nat)) (T : List (Option Tmp)) (S : List Spec) (id : Nat) (a0 : Act) (w0 : World) (n m : Nat) (hm : P.follows .mixedOrders = true) (hn : a0.tmps.size = n) (hsz : ops.size = m)
    (hD : (List.range m).map (depsOf .any ops) = D) (hT : (List.range m).map (dstOf ops) = T) (hp : plannedD D T n = true) (hop : AllDo P ops Q D T S a0 w0 0 ops.toList)
    (hend : ∀ a w, Same w0 w → a.defers = a0.defers → a.tmps.size = n → (∀ j d, T.getD j none = some d → (S.getD j .any).holds w (a.tmps[d]?.getD undef)) → (∀ k, some k ∉ T → a.tmps[k]?.getD undef = a0.tmps[k]?.getD undef) → Q .normal a w) :
    (Code.region id ops true).wp P Q a0 w0 := by
  subst hsz
  have hTl : T.length = ops.size := by rw [← hT]; simp
  have gD : ∀ i, i < ops.size → D.getD i [] = depsOf .any ops i := fun i hi => map_range_getD hD hi
  have gT : ∀ i, i < ops.size → T.getD i none = dstOf ops i := fun i hi => map_range_getD hT hi
  have nT : ∀ k, (∀ j, j < ops.size → dstOf ops j ≠ some k) ↔ some k ∉ T := by
    intro k
    rw [← hT, List.mem_map]
    constructor
    · rintro h ⟨j, hj, he⟩
      exact h j (List.mem_range.1 hj) he
    · intro h j hj he
      exact h ⟨j, List.mem_range.2 hj, he⟩
  refine wp_region_plan (fun i w v => (S.getD i .any).holds w v) id a0 w0 n hm hn ?_ (fun i w w' v h k => h.same k) ?_ ?_
  · unfold planned
    unfold plannedD at hp
    rw [List.all_eq_true] at hp ⊢
    intro i hi
    have hi' := List.mem_range.1 hi
    have h1 := hp i (by rw [hTl]; exact hi)
    rw [gD i hi', gT i hi', hTl] at h1
    rw [Bool.and_eq_true] at h1 ⊢
    refine ⟨h1.1, ?_⟩
    have h2 := h1.2
    cases hd : dstOf ops i with
    | none => rfl
    | some d =>
      rw [hd] at h2
      simp only [Bool.and_eq_true, List.all_eq_true] at h2 ⊢
      refine ⟨h2.1, fun j hj => ?_⟩
      have h3 := h2.2 j hj
      rw [gT j (List.mem_range.1 hj)] at h3
      exact h3
  · have key : ∀ (l : List Oper) (k : Nat), k + l.length ≤ ops.size → AllDo P ops Q D T S a0 w0 k l → AllPlan P .any ops Q (fun i w v => (S.getD i .any).holds w v) a0 w0 k l := by
      intro l
      induction l with
      | nil => intro k _ _; trivial
      | cons o r ih =>
        intro k hk h
        simp only [List.length_cons] at hk
        refine ⟨fun a w K hs hdep hfr hK => h.1 a w K hs (fun j hj d hd => ?_) (fun q hq => by have := hfr q ((nT q).2 hq); simpa using this) hK, ih (k + 1) (by omega) h.2⟩
        have hjs : j < ops.size := by
          by_cases hjs : j < ops.size
          · exact hjs
          · rw [List.getD_eq_getElem?_getD, List.getElem?_eq_none (by omega)] at hd; simp at hd
        rw [gT j hjs] at hd
        rw [gD k (by omega)] at hj
        have := hdep j hj d hd
        rw [Array.getD_eq_getD_getElem?] at this
        exact this
    exact key _ 0 (by simp) hop
  · intro a w h1 h2 h3 h4 h5
    refine hend a w h1 h2 h3 (fun j d hd => ?_) (fun k hk => by have := h5 k ((nT k).2 hk); simpa using this)
    have hjs : j < ops.size := by
      by_cases hjs : j < ops.size
      · exact hjs
      · rw [List.getD_eq_getElem?_getD, List.getElem?_eq_none (by omega)] at hd; simp at hd
    have := h4 j d hjs (by rw [← gT j hjs]; exact hd)
    rw [Array.getD_eq_getD_getElem?] at this
    exact this
end

/-- A guarded operation is wanted where its guard says so. -/
theorem wanted_of {ops : Array Oper} {o : Oper} {tmps : Array Value} (j d : Nat) (b : Bool) (hg : o.guard = some (j, b)) (hd : (ops[j]?).bind (·.dst) = some d) (h : tmps[d]?.getD undef = .bool b) : Region.wanted o (yielded ops tmps) = true := by
  unfold Region.wanted
  rw [hg]
  have h2 : tmps[d]? = some (.bool b) := by
    cases hq : tmps[d]? with
    | none => rw [hq] at h; simp [undef] at h
    | some v => rw [hq] at h; simp at h; rw [h]
  simp [yielded, hd, h2]
/-- The temporaries behind such a region, written out. -/
def putAll (val : Tmp → Value) : List (Option Tmp) → Array Value → Array Value
  | [], acc => acc
  | some d :: r, acc => putAll val r (acc.setIfInBounds d (val d))
  | none :: r, acc => putAll val r acc
theorem putAll_size (val : Tmp → Value) : ∀ (T : List (Option Tmp)) (acc : Array Value), (putAll val T acc).size = acc.size
  | [], acc => rfl
  | some d :: r, acc => by rw [putAll, putAll_size val r]; simp
  | none :: r, acc => putAll_size val r acc
theorem putAll_get (val : Tmp → Value) (k : Nat) : ∀ (T : List (Option Tmp)) (acc : Array Value), k < acc.size → (putAll val T acc)[k]?.getD undef = if some k ∈ T then val k else acc[k]?.getD undef
  | [], acc, _ => by simp [putAll]
  | some d :: r, acc, hk => by
    rw [putAll, putAll_get val k r _ (by simpa using hk)]
    by_cases hr : some k ∈ r
    · simp [hr]
    · by_cases hdk : d = k
      · subst hdk
        simp [hr, hk]
      · have h1 : ¬ some k ∈ some d :: r := by
          simp only [List.mem_cons, Option.some.injEq, not_or]
          exact ⟨fun e => hdk e.symm, hr⟩
        rw [if_neg hr, if_neg h1, Array.getElem?_setIfInBounds_ne hdk]
  | none :: r, acc, hk => by
    rw [putAll, putAll_get val k r acc hk]
    simp
theorem act_after {R : Act → Prop} (a a0 : Act) (T : List (Option Tmp)) (n : Nat) (hn : a0.tmps.size = n) (hs : a.tmps.size = n) (hd : a.defers = a0.defers) (hfr : ∀ k, some k ∉ T → a.tmps[k]?.getD undef = a0.tmps[k]?.getD undef)
    (val : Tmp → Value) (hval : ∀ d, some d ∈ T → a.tmps[d]?.getD undef = val d) (h : R ⟨putAll val T a0.tmps, a0.defers⟩) : R a := by
  have he : a = ⟨putAll val T a0.tmps, a0.defers⟩ := by
    obtain ⟨tm, df⟩ := a
    simp only at hs hd hfr hval
    subst hd
    congr 1
    apply Array.ext
    · rw [putAll_size, hs, hn]
    · intro k h1 h2
      have h3 := putAll_get val k T a0.tmps (by omega)
      rw [Array.getElem?_eq_getElem h2, Option.getD_some] at h3
      rw [h3]
      have h4 : tm[k] = tm[k]?.getD undef := by rw [Array.getElem?_eq_getElem h1, Option.getD_some]
      rw [h4]
      split
      · next hm => exact hval k hm
      · next hm => exact hfr k hm
  rw [he]
  exact h

theorem act_eq (a a0 : Act) (T : List (Option Tmp)) (n : Nat) (hn : a0.tmps.size = n) (hs : a.tmps.size = n) (hd : a.defers = a0.defers) (hfr : ∀ k, some k ∉ T → a.tmps[k]?.getD undef = a0.tmps[k]?.getD undef)
    (val : Tmp → Value) (hval : ∀ d, some d ∈ T → a.tmps[d]?.getD undef = val d) : a = ⟨putAll val T a0.tmps, a0.defers⟩ :=
  act_after (R := fun b => b = ⟨putAll val T a0.tmps, a0.defers⟩) a a0 T n hn hs hd hfr val hval rfl

end Go.Proofs.YtafgiljgefeefaaDoor
namespace Go.Proofs.YtafgiljgefeefaaDoor
open Go.RowKit
set_option linter.unusedVariables false

inductive Spec3 where
  | is (v : Value)
  | reads (b : List UInt8)
  | fresh (t : TypeId) (cs : Array Value)
  | own (e : TypeId) (b : List UInt8)
  | aggReads (f : Value → Value) (b : List UInt8)
  | lit (t : TypeId) (cs : Array Value)
  | ownv (e : TypeId) (xs : List Value)
  | litN (t : TypeId) (cs : Array Value) (n : Nat)
  | ex (p : Nat → World → Value → Prop) (hp : ∀ (Sx : Nat → Prop) (lo : Nat) (w w' : World) (v : Value), (∀ k, Sx k → k < lo) → p lo w v → Keeps Sx w w' → p lo w' v)
  | any
def Spec3.holds (Sx : Nat → Prop) (lo : Nat) (s : Spec3) (w : World) (v : Value) : Prop :=
  match s with
  | .is u => v = u
  | .reads b => Reads w v b ∧ ∀ a n c, v = .slice (some a) n c → ¬ Sx a.block
  | .fresh t cs => ∃ G, v = .pointer (some ⟨G, 0, none⟩) ∧ lo ≤ G ∧ w.heap[G]? = some (.cells cs t (0, 0))
  | .own e b => ∃ g cap, v = .slice (some ⟨g, 0, none⟩) b.length cap ∧ w.ownsRow lo e 1 (.slice (some ⟨g, 0, none⟩) b.length cap) b.length (u8s b)
  | .aggReads f b => ∃ r, v = f r ∧ Reads w r b ∧ ∀ a n c, r = .slice (some a) n c → ¬ Sx a.block
  | .lit t cs => ∃ G, v = .slice (some ⟨G, 0, none⟩) cs.size cs.size ∧ lo ≤ G ∧ w.heap[G]? = some (.cells cs t (0, 0))
  | .litN t cs n => ∃ G, v = .slice (some ⟨G, 0, none⟩) n n ∧ lo ≤ G ∧ w.heap[G]? = some (.cells cs t (0, 0))
  | .ownv e xs => ∃ g cap, v = .slice (some ⟨g, 0, none⟩) xs.length cap ∧ w.ownsRow lo e 1 (.slice (some ⟨g, 0, none⟩) xs.length cap) xs.length xs
  | .ex p _ => p lo w v
  | .any => True
theorem Spec3.holds.keep {Sx : Nat → Prop} {lo : Nat} (hlo : ∀ k, Sx k → k < lo) {s : Spec3} {w w' : World} {v : Value} (h : s.holds Sx lo w v) (k : Keeps Sx w w') : s.holds Sx lo w' v := by
  cases s with
  | is u => exact h
  | reads b =>
    obtain ⟨⟨ao, c, e, h1, h2⟩, h3⟩ := h
    exact ⟨⟨ao, c, e, h1.keeps k (fun a n c e => h3 a n c e), h2⟩, h3⟩
  | fresh t cs =>
    obtain ⟨G, e, h1, h2⟩ := h
    exact ⟨G, e, h1, k.obj h2 (fun hs => by have := hlo _ hs; omega)⟩
  | own e b =>
    obtain ⟨g, cap, e1, h1⟩ := h
    exact ⟨g, cap, e1, own_keeps k h1 (fun q e2 hs => by have := (h1.lt q e2).1; have := hlo _ hs; omega)⟩
  | aggReads f b =>
    obtain ⟨r, e0, ⟨ao, c, e, h1, h2⟩, h3⟩ := h
    exact ⟨r, e0, ⟨ao, c, e, h1.keeps k (fun a n c e => h3 a n c e), h2⟩, h3⟩
  | lit t cs =>
    obtain ⟨G, e, h1, h2⟩ := h
    exact ⟨G, e, h1, k.obj h2 (fun hs => by have := hlo _ hs; omega)⟩
  | litN t cs n =>
    obtain ⟨G, e, h1, h2⟩ := h
    exact ⟨G, e, h1, k.obj h2 (fun hs => by have := hlo _ hs; omega)⟩
  | ownv e xs =>
    obtain ⟨g, cap, e1, h1⟩ := h
    exact ⟨g, cap, e1, own_keeps k h1 (fun q e2 hs => by have := (h1.lt q e2).1; have := hlo _ hs; omega)⟩
  | ex p hp => exact hp Sx lo w w' v hlo h k
  | any => trivial

section
variable {P : Program} {ops : Array Oper} {Q : Exit → Act → World → Prop}

/-- What operation number i has to do; p is its place in the chain. -/
def OpDo3 (P : Program) (ops : Array Oper) (Q : Exit → Act → World → Prop) (D : List (List Nat)) (T : List (Option Tmp)) (S : List Spec3) (Sx : Nat → Prop) (E : Nat → World → Prop) (a0 : Act) (w0 : World) (i : Nat) (o : Oper) : Option Nat → Prop
  | none => ∀ (a : Act) (w : World) (K : Act → World → Prop), Keeps Sx w0 w → (∀ j ∈ D.getD i [], ∀ d, T.getD j none = some d → (S.getD j .any).holds Sx w0.heap.size w (a.tmps[d]?.getD undef)) → (∀ k, some k ∉ T → a.tmps[k]?.getD undef = a0.tmps[k]?.getD undef) →
      (∀ v w', Same w w' → (S.getD i .any).holds Sx w0.heap.size w' v → K (a.put o.dst v) w') → if Region.wanted o (yielded ops a.tmps) = true then Oper.wp P o a w K Q else K (a.put o.dst undef) w
  | some p => ∀ (a : Act) (w : World) (K : Act → World → Prop), Keeps Sx w0 w → (∀ j ∈ D.getD i [], ∀ d, T.getD j none = some d → (S.getD j .any).holds Sx w0.heap.size w (a.tmps[d]?.getD undef)) → (∀ k, some k ∉ T → a.tmps[k]?.getD undef = a0.tmps[k]?.getD undef) → E p w →
      (∀ v w', Keeps Sx w w' → E (p + 1) w' → (S.getD i .any).holds Sx w0.heap.size w' v → K (a.put o.dst v) w') → if Region.wanted o (yielded ops a.tmps) = true then Oper.wp P o a w K Q else K (a.put o.dst undef) w
/-- The last operation, which waits for all. -/
def OpLast (P : Program) (ops : Array Oper) (Q : Exit → Act → World → Prop) (T : List (Option Tmp)) (S : List Spec3) (Sx : Nat → Prop) (E : Nat → World → Prop) (a0 : Act) (w0 : World) (n c L : Nat) (o : Oper) : Prop :=
  ∀ (a : Act) (w : World), Keeps Sx w0 w → a.defers = a0.defers → a.tmps.size = n → (∀ j d, j < L → T.getD j none = some d → (S.getD j .any).holds Sx w0.heap.size w (a.tmps[d]?.getD undef)) → (∀ k, some k ∉ T → a.tmps[k]?.getD undef = a0.tmps[k]?.getD undef) → E c w →
    if Region.wanted o (yielded ops a.tmps) = true then Oper.wp P o a w (fun a' w' => Q .normal a' w') Q else Q .normal (a.put o.dst undef) w
def AllDo3 (P : Program) (ops : Array Oper) (Q : Exit → Act → World → Prop) (D : List (List Nat)) (T : List (Option Tmp)) (S : List Spec3) (Sx : Nat → Prop) (C : List Nat) (E : Nat → World → Prop) (a0 : Act) (w0 : World) (n : Nat) : Nat → List Oper → Prop
  | _, [] => True
  | i, [o] => OpLast P ops Q T S Sx E a0 w0 n C.length i o
  | i, o :: o' :: r => OpDo3 P ops Q D T S Sx E a0 w0 i o (C.idxOf? i) ∧ AllDo3 P ops Q D T S Sx C E a0 w0 n (i + 1) (o' :: r)
theorem AllDo3.get {D : List (List Nat)} {T : List (Option Tmp)} {S : List Spec3} {Sx : Nat → Prop} {C : List Nat} {E : Nat → World → Prop} {a0 : Act} {w0 : World} {n : Nat} : ∀ (l : List Oper) (k : Nat), AllDo3 P ops Q D T S Sx C E a0 w0 n k l → ∀ i o, l[i]? = some o →
    (i + 1 < l.length → OpDo3 P ops Q D T S Sx E a0 w0 (k + i) o (C.idxOf? (k + i))) ∧ (i + 1 = l.length → OpLast P ops Q T S Sx E a0 w0 n C.length (k + i) o)
  | [], k, _, i, o, h => by simp at h
  | [o'], k, h, 0, o, ho => by
    simp at ho; subst ho
    exact ⟨fun h => by simp at h, fun _ => h⟩
  | [o'], k, h, i + 1, o, ho => by simp at ho
  | o' :: o2 :: r, k, h, 0, o, ho => by
    simp at ho; subst ho
    exact ⟨fun _ => h.1, fun h => by simp at h⟩
  | o' :: o2 :: r, k, h, i + 1, o, ho => by
    have := AllDo3.get (o2 :: r) (k + 1) h.2 i o (by simpa using ho)
    rw [show k + (i + 1) = k + 1 + i from by omega]
    exact ⟨fun h => this.1 (by simp at h ⊢; omega), fun h => this.2 (by simp at h ⊢; omega)⟩

/-- The chain: each of it waits for the one before; all come ahead of the last operation, which waits for all. -/
def chained (D : List (List Nat)) (C : List Nat) (m : Nat) : Bool :=
  (List.range (m - 1)).all (fun j => (D.getD (m - 1) []).contains j) && (List.range C.length).all (fun p => decide (C.getD p 0 < m - 1) && (p == 0 || (D.getD (C.getD p 0) []).contains (C.getD (p - 1) 0)) && (List.range C.length).all (fun q => p == q || C.getD p 0 != C.getD q 0))

theorem idx_some : ∀ {C : List Nat} {i p : Nat}, C.idxOf? i = some p → p < C.length ∧ C.getD p 0 = i
  | [], i, p, h => by simp at h
  | x :: C, i, p, h => by
    rw [List.idxOf?_cons] at h
    split at h
    · next e => simp at h e; subst h; simp [e]
    · obtain ⟨q, hq, rfl⟩ := Option.map_eq_some_iff.1 h
      have := idx_some hq
      exact ⟨by simp; omega, by simpa using this.2⟩
theorem idx_none : ∀ {C : List Nat} {i : Nat}, C.idxOf? i = none → ∀ p, p < C.length → C.getD p 0 ≠ i := by
  intro C i h p hp
  rw [List.idxOf?_eq_none_iff] at h
  intro e
  apply h
  rw [← e, List.getD_eq_getElem?_getD, List.getElem?_eq_getElem hp, Option.getD_some]
  exact List.getElem_mem hp

theorem wp_region_chain (D : List (List Nat)) (T : List (Option Tmp)) (S : List Spec3) (Sx : Nat → Prop) (C : List Nat) (E : Nat → World → Prop) (id : Nat) (a0 : Act) (w0 : World) (n m : Nat) (hm : P.follows .mixedOrders = true) (hn : a0.tmps.size = n) (hsz : ops.size = m) (hm1 : 1 ≤ m)
    (hD : (List.range m).map (depsOf .any ops) = D) (hT : (List.range m).map (dstOf ops) = T) (hp : plannedD D T n = true) (hch : chained D C m = true) (hlo : ∀ k, Sx k → k < w0.heap.size) (hE0 : E 0 w0) (hE : ∀ c w w', E c w → Same w w' → E c w')
    (hop : AllDo3 P ops Q D T S Sx C E a0 w0 n 0 ops.toList) :
    (Code.region id ops true).wp P Q a0 w0 := by
  subst hsz
  have hTl : T.length = ops.size := by rw [← hT]; simp
  have gD : ∀ i, i < ops.size → D.getD i [] = depsOf .any ops i := fun i hi => map_range_getD hD hi
  have gT : ∀ i, i < ops.size → T.getD i none = dstOf ops i := fun i hi => map_range_getD hT hi
  have nT : ∀ k, (∀ j, j < ops.size → dstOf ops j ≠ some k) ↔ some k ∉ T := by
    intro k
    rw [← hT, List.mem_map]
    constructor
    · rintro h ⟨j, hj, he⟩
      exact h j (List.mem_range.1 hj) he
    · intro h j hj he
      exact h ⟨j, List.mem_range.2 hj, he⟩
  have hpl : planned .any ops n = true := by
    unfold planned
    unfold plannedD at hp
    rw [List.all_eq_true] at hp ⊢
    intro i hi
    have hi' := List.mem_range.1 hi
    have h1 := hp i (by rw [hTl]; exact hi)
    rw [gD i hi', gT i hi', hTl] at h1
    rw [Bool.and_eq_true] at h1 ⊢
    refine ⟨h1.1, ?_⟩
    have h2 := h1.2
    cases hd : dstOf ops i with
    | none => rfl
    | some d =>
      rw [hd] at h2
      simp only [Bool.and_eq_true, List.all_eq_true] at h2 ⊢
      refine ⟨h2.1, fun j hj => ?_⟩
      have h3 := h2.2 j hj
      rw [gT j (List.mem_range.1 hj)] at h3
      exact h3
  unfold chained at hch
  rw [Bool.and_eq_true, List.all_eq_true, List.all_eq_true] at hch
  obtain ⟨hlast, hchain⟩ := hch
  have hC : ∀ p, p < C.length → C.getD p 0 < ops.size - 1 ∧ (p = 0 ∨ C.getD (p - 1) 0 ∈ D.getD (C.getD p 0) []) ∧ ∀ q, q < C.length → p = q ∨ C.getD p 0 ≠ C.getD q 0 := by
    intro p hp
    have h := hchain p (List.mem_range.2 hp)
    rw [Bool.and_eq_true, Bool.and_eq_true, List.all_eq_true] at h
    refine ⟨by simpa using h.1.1, ?_, fun q hq => ?_⟩
    · have := h.1.2
      simp only [Bool.or_eq_true, beq_iff_eq, List.contains_iff_mem] at this
      exact this
    · have := h.2 q (List.mem_range.2 hq)
      simpa using this
  have depListed : ∀ (listed : Array Bool) (i : Nat) (o : Oper), ops[i]? = some o → (∀ e ∈ o.after, Region.binds .any e → listed.getD e.on false = true) → ∀ j ∈ depsOf .any ops i, listed.getD j false = true := by
    intro listed i o ho hdep j hj
    unfold depsOf at hj
    simp only [ho, Option.map_some, Option.getD_some, List.mem_map, List.mem_filter] at hj
    obtain ⟨e, ⟨he, hb⟩, rfl⟩ := hj
    exact hdep e (by simpa using he) hb
  refine wp_region_any hm ?_
  refine wpAny_inv (fun listed a w => listed.size = ops.size ∧ ((listed.getD (ops.size - 1) false = false ∧ Keeps Sx w0 w ∧ a.defers = a0.defers ∧ a.tmps.size = n ∧ (∀ k, some k ∉ T → a.tmps[k]?.getD undef = a0.tmps[k]?.getD undef) ∧
      (∀ j d, j < ops.size → T.getD j none = some d → listed.getD j false = true → (S.getD j .any).holds Sx w0.heap.size w (a.tmps[d]?.getD undef)) ∧
      ∃ c, c ≤ C.length ∧ (∀ q, q < c → listed.getD (C.getD q 0) false = true) ∧ (∀ q, c ≤ q → q < C.length → listed.getD (C.getD q 0) false = false) ∧ E c w) ∨ ((∀ i, i < ops.size → listed.getD i false = true) ∧ Q .normal a w))) ?_ ?_ ops.size (Array.replicate ops.size false) a0 _ ?_ ?_
  · intro listed a w i ⟨h1, h⟩ hi
    obtain ⟨hl, o, ho, hdep⟩ := mem_ready.1 hi
    have hio : i < ops.size := (Array.getElem?_eq_some_iff.1 ho).1
    have hnl : listed.getD i false = false := by simpa [h1 ▸ hio] using hl
    rcases h with ⟨hL, h2, h3, h4, h5, h6, c, hc, hc1, hc2, hEc⟩ | ⟨hall, _⟩
    case inr => rw [hall i hio] at hnl; simp at hnl
    have hdl := depListed listed i o ho hdep
    have hget := AllDo3.get ops.toList 0 hop i o (by simpa using ho)
    rw [Nat.zero_add] at hget
    have hdo : dstOf ops i = o.dst := by simp [dstOf, ho]
    have hput : ∀ (v : Value) k, o.dst ≠ some k → (a.put o.dst v).tmps[k]?.getD undef = a.tmps[k]?.getD undef := by
      intro v k hk
      unfold Act.put
      cases hd : o.dst with
      | none => rfl
      | some d =>
        have hdk : d ≠ k := fun e => hk (by rw [hd, e])
        simp only [Array.getElem?_setIfInBounds_ne hdk]
    have hdeps : ∀ j ∈ D.getD i [], ∀ d, T.getD j none = some d → (S.getD j .any).holds Sx w0.heap.size w (a.tmps[d]?.getD undef) := by
      intro j hj d hd
      rw [gD i hio] at hj
      have hji := planned_deps hpl hio j hj
      exact h6 j d (by omega) hd (hdl j hj)
    have hset : ∀ j, i ≠ j → (listed.setIfInBounds i true).getD j false = listed.getD j false := by
      intro j hij
      simp only [Array.getD_eq_getD_getElem?, Array.getElem?_setIfInBounds_ne hij]
    have hsetI : (listed.setIfInBounds i true).getD i false = true := by
      simp [h1 ▸ hio]
    refine wpOp_step ho fun K' hK => ?_
    by_cases hiL : i = ops.size - 1
    · have hol := hget.2 (by simp; omega)
      have hall : ∀ j, j < ops.size - 1 → listed.getD j false = true := by
        intro j hj
        have := hlast j (List.mem_range.2 hj)
        rw [List.contains_iff_mem, gD _ (by omega), ← hiL] at this
        exact hdl j this
      have hcl : c = C.length := by
        by_cases hcl : c < C.length
        · have h7 := hc2 c (Nat.le_refl _) hcl
          rw [hall _ (hC c hcl).1] at h7
          simp at h7
        · omega
      have hres := hol a w h2 h3 h4 (fun j d hj hd => h6 j d (by omega) hd (hall j (by omega))) h5 (hcl ▸ hEc)
      have hfin : ∀ a' w', Q .normal a' w' → K' a' w' := by
        intro a' w' hq
        refine hK a' w' ⟨by simpa using h1, .inr ⟨fun j hj => ?_, hq⟩⟩
        by_cases hij : i = j
        · subst hij; exact hsetI
        · rw [hset j hij]; exact hall j (by omega)
      split at hres
      · next hw => rw [if_pos hw]; exact Oper.wp_mono (fun a' w' h => hfin a' w' h) hres
      · next hw => rw [if_neg hw]; exact hfin _ _ hres
    · have hod := hget.1 (by simp; omega)
      have fin : ∀ v w', Keeps Sx w w' → (S.getD i .any).holds Sx w0.heap.size w' v → (∃ c, c ≤ C.length ∧ (∀ q, q < c → (listed.setIfInBounds i true).getD (C.getD q 0) false = true) ∧ (∀ q, c ≤ q → q < C.length → (listed.setIfInBounds i true).getD (C.getD q 0) false = false) ∧ E c w') → K' (a.put o.dst v) w' := by
        intro v w' hs hv hce
        refine hK _ _ ⟨by simpa using h1, .inl ⟨by rw [hset _ hiL]; exact hL, h2.trans hs (fun _ _ e => e), ?_, ?_, fun k hk => ?_, fun j d hj hd hlj => ?_, hce⟩⟩
        · unfold Act.put; cases o.dst <;> exact h3
        · unfold Act.put
          cases o.dst with
          | none => exact h4
          | some d => simpa using h4
        · rw [hput v k (fun e => (nT k).2 hk i hio (by rw [hdo, e]))]
          exact h5 k hk
        · rw [gT j hj] at hd
          by_cases hij : i = j
          · subst hij
            rw [hdo] at hd
            have hdn := (planned_dst hpl hio (by rw [hdo, hd])).1
            have : (a.put o.dst v).tmps[d]?.getD undef = v := by
              unfold Act.put
              rw [hd]
              simp [h4, hdn]
            rw [this]
            exact hv
          · have hne : o.dst ≠ some d := fun e => (planned_dst hpl hio (by rw [hdo, e])).2 j hj hij hd
            rw [hput v d hne]
            rw [hset j hij] at hlj
            exact (h6 j d hj (by rw [gT j hj]; exact hd) hlj).keep hlo hs
      cases hx : C.idxOf? i with
      | none =>
        rw [hx] at hod
        have hne := idx_none hx
        exact hod a w K' h2 hdeps h5 fun v w' hs hv => fin v w' ((Keeps.refl Sx w).trans hs (fun _ _ e => e.elim)) hv
          ⟨c, hc, fun q hq => by rw [hset _ (fun e => hne q (by omega) e.symm)]; exact hc1 q hq, fun q hq hq2 => by rw [hset _ (fun e => hne q hq2 e.symm)]; exact hc2 q hq hq2, hE _ _ _ hEc hs⟩
      | some p =>
        rw [hx] at hod
        obtain ⟨hpl2, hpi⟩ := idx_some hx
        obtain ⟨_, hprev, hnd⟩ := hC p hpl2
        have hcp : c = p := by
          have h8 : c ≤ p := by
            by_cases h8 : p < c
            · have := hc1 p h8
              rw [hpi, hnl] at this; simp at this
            · omega
          have h9 : p ≤ c := by
            by_cases h9 : c < p
            · rcases hprev with h0 | hd
              · omega
              · rw [hpi, gD i hio] at hd
                have h10 := hdl _ hd
                rw [hc2 (p - 1) (by omega) (by omega)] at h10
                simp at h10
            · omega
          omega
        subst hcp
        exact hod a w K' h2 hdeps h5 hEc fun v w' hs hE' hv => fin v w' hs hv
          ⟨c + 1, by omega, fun q hq => by
            by_cases hqc : q = c
            · subst hqc; rw [hpi]; exact hsetI
            · rcases hnd q (by omega) with e | e
              · omega
              · rw [hset _ (fun h => e (by rw [hpi, h]))]; exact hc1 q (by omega),
           fun q hq hq2 => by
            rcases hnd q hq2 with e | e
            · omega
            · rw [hset _ (fun h => e (by rw [hpi, h]))]; exact hc2 q (by omega) hq2, hE'⟩
  · intro listed a w ⟨h1, h⟩ hr
    have hal := all_listed hpl h1 hr
    rcases h with ⟨hL, _⟩ | ⟨_, hq⟩
    · rw [hal (ops.size - 1) (by omega)] at hL; simp at hL
    · exact hq
  · refine ⟨by simp, .inl ⟨by simp only [Array.getD_eq_getD_getElem?, Array.getElem?_replicate]; split <;> rfl, ((Keeps.refl _ _).drew), rfl, hn, fun _ _ => rfl, fun j d hj hd hl => by simp [hj] at hl, 0, Nat.zero_le _, fun q hq => by omega, fun q _ hq => ?_, hE _ _ _ hE0 (Keeps.refl _ _).drew⟩⟩
    have := (hC q hq).1
    simp only [Array.getD_eq_getD_getElem?, Array.getElem?_replicate]
    split <;> rfl
  · simp
/-- An operation whose value and world are known. -/
theorem plan_go {a : Act} {w : World} {K : Act → World → Prop} {o : Oper} (r : Value) (w1 : World) (hr : (execOp a.eval o).run P w = .ok (.value r) w1) (h : K (a.put o.dst r) w1) : Oper.wp P o a w K Q := by
  unfold Oper.wp
  rw [hr]
  exact h
end

end Go.Proofs.YtafgiljgefeefaaDoor
namespace Go.Proofs.YtafgiljgefeefaaDoor
open Go.RowKit
set_option linter.unusedVariables false

section
variable {P : Program} {ops : Array Oper} {Q : Exit → Act → World → Prop}

def AllDo4 (P : Program) (ops : Array Oper) (Q : Exit → Act → World → Prop) (D : List (List Nat)) (T : List (Option Tmp)) (S : List Spec3) (Sx : Nat → Prop) (C : List Nat) (E : Nat → World → Prop) (a0 : Act) (w0 : World) : Nat → Nat → List Oper → Prop
  | _, 0, _ => True
  | _, _ + 1, [] => True
  | i, L + 1, o :: r => OpDo3 P ops Q D T S Sx E a0 w0 i o (C.idxOf? i) ∧ AllDo4 P ops Q D T S Sx C E a0 w0 (i + 1) L r
theorem AllDo4.get {D : List (List Nat)} {T : List (Option Tmp)} {S : List Spec3} {Sx : Nat → Prop} {C : List Nat} {E : Nat → World → Prop} {a0 : Act} {w0 : World} : ∀ (l : List Oper) (k L : Nat), AllDo4 P ops Q D T S Sx C E a0 w0 k L l → ∀ i o, l[i]? = some o → i < L →
    OpDo3 P ops Q D T S Sx E a0 w0 (k + i) o (C.idxOf? (k + i))
  | [], k, _, _, i, o, h, _ => by simp at h
  | o' :: r, k, 0, _, i, o, _, hi => by omega
  | o' :: r, k, L + 1, h, 0, o, ho, _ => by
    simp at ho; subst ho
    exact h.1
  | o' :: r, k, L + 1, h, i + 1, o, ho, hi => by
    have := AllDo4.get r (k + 1) L h.2 i o (by simpa using ho) (by omega)
    rw [show k + (i + 1) = k + 1 + i from by omega]
    exact this

/-- From place L on each operation comes behind all that stand before it. -/
def forced (D : List (List Nat)) (L m : Nat) : Bool :=
  (List.range m).all fun t => decide (t < L) || (List.range t).all fun j => (List.range (t + 1)).any fun i => decide (j < i) && (D.getD i []).contains j
def chained4 (D : List (List Nat)) (C : List Nat) (L m : Nat) : Bool :=
  forced D L m && (List.range C.length).all (fun p => decide (C.getD p 0 < L) && (p == 0 || (D.getD (C.getD p 0) []).contains (C.getD (p - 1) 0)) && (List.range C.length).all (fun q => p == q || C.getD p 0 != C.getD q 0))

theorem wp_region_tail (D : List (List Nat)) (T : List (Option Tmp)) (S : List Spec3) (Sx : Nat → Prop) (C : List Nat) (E : Nat → World → Prop) (id : Nat) (a0 : Act) (w0 : World) (n L m : Nat) (hm : P.follows .mixedOrders = true) (hn : a0.tmps.size = n) (hsz : ops.size = m) (hLm : L ≤ m)
    (hD : (List.range m).map (depsOf .any ops) = D) (hT : (List.range m).map (dstOf ops) = T) (hp : plannedD D T n = true) (hch : chained4 D C L m = true) (hlo : ∀ k, Sx k → k < w0.heap.size) (hE0 : E 0 w0) (hE : ∀ c w w', E c w → Same w w' → E c w')
    (hop : AllDo4 P ops Q D T S Sx C E a0 w0 0 L ops.toList)
    (hend : ∀ (a : Act) (w : World), Keeps Sx w0 w → a.defers = a0.defers → a.tmps.size = n → (∀ j d, j < L → T.getD j none = some d → (S.getD j .any).holds Sx w0.heap.size w (a.tmps[d]?.getD undef)) → (∀ k, some k ∉ T → a.tmps[k]?.getD undef = a0.tmps[k]?.getD undef) → E C.length w → wpList P ops Q (ops.toList.drop L) a w) :
    (Code.region id ops true).wp P Q a0 w0 := by
  subst hsz
  have hTl : T.length = ops.size := by rw [← hT]; simp
  have gD : ∀ i, i < ops.size → D.getD i [] = depsOf .any ops i := fun i hi => map_range_getD hD hi
  have gT : ∀ i, i < ops.size → T.getD i none = dstOf ops i := fun i hi => map_range_getD hT hi
  have nT : ∀ k, (∀ j, j < ops.size → dstOf ops j ≠ some k) ↔ some k ∉ T := by
    intro k
    rw [← hT, List.mem_map]
    constructor
    · rintro h ⟨j, hj, he⟩
      exact h j (List.mem_range.1 hj) he
    · intro h j hj he
      exact h ⟨j, List.mem_range.2 hj, he⟩
  have hpl : planned .any ops n = true := by
    unfold planned
    unfold plannedD at hp
    rw [List.all_eq_true] at hp ⊢
    intro i hi
    have hi' := List.mem_range.1 hi
    have h1 := hp i (by rw [hTl]; exact hi)
    rw [gD i hi', gT i hi', hTl] at h1
    rw [Bool.and_eq_true] at h1 ⊢
    refine ⟨h1.1, ?_⟩
    have h2 := h1.2
    cases hd : dstOf ops i with
    | none => rfl
    | some d =>
      rw [hd] at h2
      simp only [Bool.and_eq_true, List.all_eq_true] at h2 ⊢
      refine ⟨h2.1, fun j hj => ?_⟩
      have h3 := h2.2 j hj
      rw [gT j (List.mem_range.1 hj)] at h3
      exact h3
  unfold chained4 at hch
  rw [Bool.and_eq_true, List.all_eq_true] at hch
  obtain ⟨hforced, hchain⟩ := hch
  have hF : ∀ t, L ≤ t → t < ops.size → ∀ j, j < t → ∃ i, j < i ∧ i ≤ t ∧ j ∈ D.getD i [] := by
    intro t ht htm j hj
    unfold forced at hforced
    rw [List.all_eq_true] at hforced
    have h := hforced t (List.mem_range.2 htm)
    rw [Bool.or_eq_true] at h
    rcases h with h | h
    · simp at h; omega
    · rw [List.all_eq_true] at h
      have h2 := h j (List.mem_range.2 hj)
      rw [List.any_eq_true] at h2
      obtain ⟨i, hi, h3⟩ := h2
      rw [Bool.and_eq_true, List.contains_iff_mem] at h3
      exact ⟨i, by simpa using h3.1, by have := List.mem_range.1 hi; omega, h3.2⟩
  have hC : ∀ p, p < C.length → C.getD p 0 < L ∧ (p = 0 ∨ C.getD (p - 1) 0 ∈ D.getD (C.getD p 0) []) ∧ ∀ q, q < C.length → p = q ∨ C.getD p 0 ≠ C.getD q 0 := by
    intro p hp
    have h := hchain p (List.mem_range.2 hp)
    rw [Bool.and_eq_true, Bool.and_eq_true, List.all_eq_true] at h
    refine ⟨by simpa using h.1.1, ?_, fun q hq => ?_⟩
    · have := h.1.2
      simp only [Bool.or_eq_true, beq_iff_eq, List.contains_iff_mem] at this
      exact this
    · have := h.2 q (List.mem_range.2 hq)
      simpa using this
  have depListed : ∀ (listed : Array Bool) (i : Nat) (o : Oper), ops[i]? = some o → (∀ e ∈ o.after, Region.binds .any e → listed.getD e.on false = true) → ∀ j ∈ depsOf .any ops i, listed.getD j false = true := by
    intro listed i o ho hdep j hj
    unfold depsOf at hj
    simp only [ho, Option.map_some, Option.getD_some, List.mem_map, List.mem_filter] at hj
    obtain ⟨e, ⟨he, hb⟩, rfl⟩ := hj
    exact hdep e (by simpa using he) hb
  -- what is listed is closed under what it waits for; where t is ready, all before it is listed
  have hclosed : ∀ (listed : Array Bool) (t : Nat) (o : Oper), (∀ i, i < ops.size → listed.getD i false = true → ∀ j ∈ depsOf .any ops i, listed.getD j false = true) → L ≤ t → t < ops.size → ops[t]? = some o → (∀ j ∈ depsOf .any ops t, listed.getD j false = true) → ∀ j, j < t → listed.getD j false = true := by
    intro listed t o hcl hLt htm ho hdt
    have key : ∀ n j, j + n = t → 1 ≤ n → listed.getD j false = true := by
      intro n
      induction n using Nat.strongRecOn with
      | _ n ih =>
        intro j hjn h1
        obtain ⟨i, hi1, hi2, hi3⟩ := hF t hLt htm j (by omega)
        rw [gD i (by omega)] at hi3
        by_cases hit : i = t
        · subst hit; exact hdt j hi3
        · exact hcl i (by omega) (ih (t - i) (by omega) i (by omega) (by omega)) j hi3
    intro j hj
    exact key (t - j) j (by omega) (by omega)
  refine wp_region_any hm ?_
  refine wpAny_inv (fun listed a w => listed.size = ops.size ∧ (∀ i, i < ops.size → listed.getD i false = true → ∀ j ∈ depsOf .any ops i, listed.getD j false = true) ∧
      (((∀ i, L ≤ i → i < ops.size → listed.getD i false = false) ∧ Keeps Sx w0 w ∧ a.defers = a0.defers ∧ a.tmps.size = n ∧ (∀ k, some k ∉ T → a.tmps[k]?.getD undef = a0.tmps[k]?.getD undef) ∧
      (∀ j d, j < ops.size → T.getD j none = some d → listed.getD j false = true → (S.getD j .any).holds Sx w0.heap.size w (a.tmps[d]?.getD undef)) ∧
      ∃ c, c ≤ C.length ∧ (∀ q, q < c → listed.getD (C.getD q 0) false = true) ∧ (∀ q, c ≤ q → q < C.length → listed.getD (C.getD q 0) false = false) ∧ E c w) ∨
      (∃ t, L ≤ t ∧ t ≤ ops.size ∧ (∀ i, i < t → listed.getD i false = true) ∧ (∀ i, t ≤ i → i < ops.size → listed.getD i false = false) ∧ wpList P ops Q (ops.toList.drop t) a w))) ?_ ?_ ops.size (Array.replicate ops.size false) a0 _ ?_ ?_
  · intro listed a w i ⟨h1, hcl, h⟩ hi
    obtain ⟨hl, o, ho, hdep⟩ := mem_ready.1 hi
    have hio : i < ops.size := (Array.getElem?_eq_some_iff.1 ho).1
    have hnl : listed.getD i false = false := by simpa [h1 ▸ hio] using hl
    have hdl := depListed listed i o ho hdep
    have hdo : dstOf ops i = o.dst := by simp [dstOf, ho]
    have hset : ∀ j, i ≠ j → (listed.setIfInBounds i true).getD j false = listed.getD j false := by
      intro j hij
      simp only [Array.getD_eq_getD_getElem?, Array.getElem?_setIfInBounds_ne hij]
    have hsetI : (listed.setIfInBounds i true).getD i false = true := by
      simp [h1 ▸ hio]
    have hup : ∀ j, listed.getD j false = true → (listed.setIfInBounds i true).getD j false = true := by
      intro j hj
      by_cases hij : i = j
      · subst hij; exact hsetI
      · rw [hset j hij]; exact hj
    have hcl' : ∀ q, q < ops.size → (listed.setIfInBounds i true).getD q false = true → ∀ j ∈ depsOf .any ops q, (listed.setIfInBounds i true).getD j false = true := by
      intro q hq hlq j hj
      by_cases hiq : i = q
      · subst hiq; exact hup j (hdl j hj)
      · rw [hset q hiq] at hlq
        exact hup j (hcl q hq hlq j hj)
    -- the forced end
    have stageB : ∀ t, L ≤ t → t ≤ ops.size → (∀ i, i < t → listed.getD i false = true) → (∀ i, t ≤ i → i < ops.size → listed.getD i false = false) → wpList P ops Q (ops.toList.drop t) a w →
        wpOp P ops Q i (fun a' w' => (listed.setIfInBounds i true).size = ops.size ∧ (∀ q, q < ops.size → (listed.setIfInBounds i true).getD q false = true → ∀ j ∈ depsOf .any ops q, (listed.setIfInBounds i true).getD j false = true) ∧
      (((∀ q, L ≤ q → q < ops.size → (listed.setIfInBounds i true).getD q false = false) ∧ Keeps Sx w0 w' ∧ a'.defers = a0.defers ∧ a'.tmps.size = n ∧ (∀ k, some k ∉ T → a'.tmps[k]?.getD undef = a0.tmps[k]?.getD undef) ∧
      (∀ j d, j < ops.size → T.getD j none = some d → (listed.setIfInBounds i true).getD j false = true → (S.getD j .any).holds Sx w0.heap.size w' (a'.tmps[d]?.getD undef)) ∧
      ∃ c, c ≤ C.length ∧ (∀ q, q < c → (listed.setIfInBounds i true).getD (C.getD q 0) false = true) ∧ (∀ q, c ≤ q → q < C.length → (listed.setIfInBounds i true).getD (C.getD q 0) false = false) ∧ E c w') ∨
      (∃ t, L ≤ t ∧ t ≤ ops.size ∧ (∀ q, q < t → (listed.setIfInBounds i true).getD q false = true) ∧ (∀ q, t ≤ q → q < ops.size → (listed.setIfInBounds i true).getD q false = false) ∧ wpList P ops Q (ops.toList.drop t) a' w'))) a w := by
      intro t htL htm hlt hge hwp
      have hit : i = t := by
        by_cases hit : i < t
        · rw [hlt i hit] at hnl; simp at hnl
        · by_cases hgt : t < i
          · have := hclosed listed i o hcl (by omega) hio ho hdl t hgt
            rw [hge t (Nat.le_refl _) (by omega)] at this; simp at this
          · omega
      subst hit
      have hdrop : ops.toList.drop i = o :: ops.toList.drop (i + 1) := by
        rw [List.drop_eq_getElem_cons (by simpa using hio)]
        congr 1
        have := ho
        simp only [Array.getElem?_eq_getElem hio, Option.some.injEq] at this
        simpa using this
      rw [hdrop] at hwp
      have hnext : ∀ a' w', wpList P ops Q (ops.toList.drop (i + 1)) a' w' → _ := fun a' w' hq => (⟨by simpa using h1, hcl', .inr ⟨i + 1, by omega, by omega, fun q hq => by
          by_cases hiq : i = q
          · subst hiq; exact hsetI
          · rw [hset q hiq]; exact hlt q (by omega), fun q hq hq2 => by rw [hset q (by omega)]; exact hge q (by omega) hq2, hq⟩⟩ :
        (listed.setIfInBounds i true).size = ops.size ∧ (∀ q, q < ops.size → (listed.setIfInBounds i true).getD q false = true → ∀ j ∈ depsOf .any ops q, (listed.setIfInBounds i true).getD j false = true) ∧
      (((∀ q, L ≤ q → q < ops.size → (listed.setIfInBounds i true).getD q false = false) ∧ Keeps Sx w0 w' ∧ a'.defers = a0.defers ∧ a'.tmps.size = n ∧ (∀ k, some k ∉ T → a'.tmps[k]?.getD undef = a0.tmps[k]?.getD undef) ∧
      (∀ j d, j < ops.size → T.getD j none = some d → (listed.setIfInBounds i true).getD j false = true → (S.getD j .any).holds Sx w0.heap.size w' (a'.tmps[d]?.getD undef)) ∧
      ∃ c, c ≤ C.length ∧ (∀ q, q < c → (listed.setIfInBounds i true).getD (C.getD q 0) false = true) ∧ (∀ q, c ≤ q → q < C.length → (listed.setIfInBounds i true).getD (C.getD q 0) false = false) ∧ E c w') ∨
      (∃ t, L ≤ t ∧ t ≤ ops.size ∧ (∀ q, q < t → (listed.setIfInBounds i true).getD q false = true) ∧ (∀ q, t ≤ q → q < ops.size → (listed.setIfInBounds i true).getD q false = false) ∧ wpList P ops Q (ops.toList.drop t) a' w')))
      unfold wpList at hwp
      unfold wpOp
      rw [ho]
      show if Region.wanted o (yielded ops a.tmps) = true then _ else _
      split at hwp
      · next hw =>
        rw [if_pos hw]
        rcases hwp with hwp | hwp
        · exact .inl (Oper.wp_mono hnext hwp)
        · exact .inr hwp
      · next hw => rw [if_neg hw]; exact hnext _ _ hwp
    rcases h with ⟨hL, h2, h3, h4, h5, h6, c, hc, hc1, hc2, hEc⟩ | ⟨t, ht1, ht2, ht3, ht4, hwp⟩
    case inr => exact stageB t ht1 ht2 ht3 ht4 hwp
    by_cases hiL : L ≤ i
    · have hall : ∀ j, j < L → listed.getD j false = true := fun j hj => hclosed listed i o hcl hiL hio ho hdl j (by omega)
      have hcl2 : c = C.length := by
        by_cases hcl2 : c < C.length
        · have h7 := hc2 c (Nat.le_refl _) hcl2
          rw [hall _ (hC c hcl2).1] at h7
          simp at h7
        · omega
      exact stageB L (Nat.le_refl _) (by omega) hall hL (hend a w h2 h3 h4 (fun j d hj hd => h6 j d (by omega) hd (hall j hj)) h5 (hcl2 ▸ hEc))
    · have hod := AllDo4.get ops.toList 0 L hop i o (by simpa using ho) (by omega)
      rw [Nat.zero_add] at hod
      have hput : ∀ (v : Value) k, o.dst ≠ some k → (a.put o.dst v).tmps[k]?.getD undef = a.tmps[k]?.getD undef := by
        intro v k hk
        unfold Act.put
        cases hd : o.dst with
        | none => rfl
        | some d =>
          have hdk : d ≠ k := fun e => hk (by rw [hd, e])
          simp only [Array.getElem?_setIfInBounds_ne hdk]
      have hdeps : ∀ j ∈ D.getD i [], ∀ d, T.getD j none = some d → (S.getD j .any).holds Sx w0.heap.size w (a.tmps[d]?.getD undef) := by
        intro j hj d hd
        rw [gD i hio] at hj
        have hji := planned_deps hpl hio j hj
        exact h6 j d (by omega) hd (hdl j hj)
      refine wpOp_step ho fun K' hK => ?_
      have fin : ∀ v w', Keeps Sx w w' → (S.getD i .any).holds Sx w0.heap.size w' v → (∃ c, c ≤ C.length ∧ (∀ q, q < c → (listed.setIfInBounds i true).getD (C.getD q 0) false = true) ∧ (∀ q, c ≤ q → q < C.length → (listed.setIfInBounds i true).getD (C.getD q 0) false = false) ∧ E c w') → K' (a.put o.dst v) w' := by
        intro v w' hs hv hce
        refine hK _ _ ⟨by simpa using h1, hcl', .inl ⟨fun q hq hq2 => by rw [hset _ (by omega)]; exact hL q hq hq2, h2.trans hs (fun _ _ e => e), ?_, ?_, fun k hk => ?_, fun j d hj hd hlj => ?_, hce⟩⟩
        · unfold Act.put; cases o.dst <;> exact h3
        · unfold Act.put
          cases o.dst with
          | none => exact h4
          | some d => simpa using h4
        · rw [hput v k (fun e => (nT k).2 hk i hio (by rw [hdo, e]))]
          exact h5 k hk
        · rw [gT j hj] at hd
          by_cases hij : i = j
          · subst hij
            rw [hdo] at hd
            have hdn := (planned_dst hpl hio (by rw [hdo, hd])).1
            have : (a.put o.dst v).tmps[d]?.getD undef = v := by
              unfold Act.put
              rw [hd]
              simp [h4, hdn]
            rw [this]
            exact hv
          · have hne : o.dst ≠ some d := fun e => (planned_dst hpl hio (by rw [hdo, e])).2 j hj hij hd
            rw [hput v d hne]
            rw [hset j hij] at hlj
            exact (h6 j d hj (by rw [gT j hj]; exact hd) hlj).keep hlo hs
      cases hx : C.idxOf? i with
      | none =>
        rw [hx] at hod
        have hne := idx_none hx
        exact hod a w K' h2 hdeps h5 fun v w' hs hv => fin v w' ((Keeps.refl Sx w).trans hs (fun _ _ e => e.elim)) hv
          ⟨c, hc, fun q hq => by rw [hset _ (fun e => hne q (by omega) e.symm)]; exact hc1 q hq, fun q hq hq2 => by rw [hset _ (fun e => hne q hq2 e.symm)]; exact hc2 q hq hq2, hE _ _ _ hEc hs⟩
      | some p =>
        rw [hx] at hod
        obtain ⟨hpl2, hpi⟩ := idx_some hx
        obtain ⟨_, hprev, hnd⟩ := hC p hpl2
        have hcp : c = p := by
          have h8 : c ≤ p := by
            by_cases h8 : p < c
            · have := hc1 p h8
              rw [hpi, hnl] at this; simp at this
            · omega
          have h9 : p ≤ c := by
            by_cases h9 : c < p
            · rcases hprev with h0 | hd
              · omega
              · rw [hpi, gD i hio] at hd
                have h10 := hdl _ hd
                rw [hc2 (p - 1) (by omega) (by omega)] at h10
                simp at h10
            · omega
          omega
        subst hcp
        exact hod a w K' h2 hdeps h5 hEc fun v w' hs hE' hv => fin v w' hs hv
          ⟨c + 1, by omega, fun q hq => by
            by_cases hqc : q = c
            · subst hqc; rw [hpi]; exact hsetI
            · rcases hnd q (by omega) with e | e
              · omega
              · rw [hset _ (fun h => e (by rw [hpi, h]))]; exact hc1 q (by omega),
           fun q hq hq2 => by
            rcases hnd q hq2 with e | e
            · omega
            · rw [hset _ (fun h => e (by rw [hpi, h]))]; exact hc2 q (by omega) hq2, hE'⟩
  · intro listed a w ⟨h1, hcl, h⟩ hr
    have hal := all_listed hpl h1 hr
    have hdrop0 : ops.toList.drop ops.size = [] := List.drop_of_length_le (by simp)
    rcases h with ⟨hL, h2, h3, h4, h5, h6, c, hc, hc1, hc2, hEc⟩ | ⟨t, ht1, ht2, ht3, ht4, hwp⟩
    · have hLs : L = ops.size := by
        by_cases hLs : L < ops.size
        · have := hL L (Nat.le_refl _) hLs
          rw [hal L hLs] at this; simp at this
        · omega
      have hcl2 : c = C.length := by
        by_cases hcl2 : c < C.length
        · have h7 := hc2 c (Nat.le_refl _) hcl2
          rw [hal _ (by have := (hC c hcl2).1; omega)] at h7
          simp at h7
        · omega
      have := hend a w h2 h3 h4 (fun j d hj hd => h6 j d (by omega) hd (hal j (by omega))) h5 (hcl2 ▸ hEc)
      rw [hLs, hdrop0] at this
      exact this
    · have hts : t = ops.size := by
        by_cases hts : t < ops.size
        · have := ht4 t (Nat.le_refl _) hts
          rw [hal t hts] at this; simp at this
        · omega
      rw [hts, hdrop0] at hwp
      exact hwp
  · have hrep : ∀ i, (Array.replicate ops.size false).getD i false = false := by
      intro i
      simp only [Array.getD_eq_getD_getElem?, Array.getElem?_replicate]
      split <;> rfl
    refine ⟨by simp, fun i _ hi => by rw [hrep] at hi; simp at hi, .inl ⟨fun i _ _ => hrep i, ((Keeps.refl _ _).drew), rfl, hn, fun _ _ => rfl, fun j d hj hd hl => by rw [hrep] at hl; simp at hl, 0, Nat.zero_le _, fun q hq => by omega, fun q _ hq => hrep _, hE _ _ _ hE0 (Keeps.refl _ _).drew⟩⟩
  · simp
end

end Go.Proofs.YtafgiljgefeefaaDoor
namespace Go.Proofs.YtafgiljgefeefaaDoor
open Go.RowKit
set_option linter.unusedVariables false

section
variable {P : Program} {ops : Array Oper} {Q : Exit → Act → World → Prop}

/-- What operation number i has to do; p is its place in the chain. -/
def OpDo5 (P : Program) (ops : Array Oper) (Q : Exit → Act → World → Prop) (D : List (List Nat)) (T : List (Option Tmp)) (S : List Spec3) (Sx : Nat → Prop) (C : List Nat) (E : Nat → Value → World → Prop) (a0 : Act) (w0 : World) (M : Nat) (i : Nat) (o : Oper) : Option Nat → Prop
  | none => ∀ (a : Act) (w : World) (K : Act → World → Prop), Keeps Sx w0 w → (∀ j ∈ D.getD i [], ∀ d, T.getD j none = some d → (S.getD j .any).holds Sx w0.heap.size w (a.tmps[d]?.getD undef)) → (∀ k, some k ∉ T.take M → a.tmps[k]?.getD undef = a0.tmps[k]?.getD undef) →
      (∀ v w', Same w w' → (S.getD i .any).holds Sx w0.heap.size w' v → K (a.put o.dst v) w') → if Region.wanted o (yielded ops a.tmps) = true then Oper.wp P o a w K Q else K (a.put o.dst undef) w
  | some p => ∀ (a : Act) (w : World) (K : Act → World → Prop), Keeps Sx w0 w → (∀ j ∈ D.getD i [], ∀ d, T.getD j none = some d → (S.getD j .any).holds Sx w0.heap.size w (a.tmps[d]?.getD undef)) → (∀ k, some k ∉ T.take M → a.tmps[k]?.getD undef = a0.tmps[k]?.getD undef) → ∀ ev, E p ev w → (∀ q d, p = q + 1 → T.getD (C.getD q 0) none = some d → a.tmps[d]?.getD undef = ev) →
      (∀ v w', Keeps Sx w w' → E (p + 1) v w' → (S.getD i .any).holds Sx w0.heap.size w' v → K (a.put o.dst v) w') → if Region.wanted o (yielded ops a.tmps) = true then Oper.wp P o a w K Q else K (a.put o.dst undef) w
def AllDo5 (P : Program) (ops : Array Oper) (Q : Exit → Act → World → Prop) (D : List (List Nat)) (T : List (Option Tmp)) (S : List Spec3) (Sx : Nat → Prop) (C : List Nat) (E : Nat → Value → World → Prop) (a0 : Act) (w0 : World) (M : Nat) : Nat → Nat → List Oper → Prop
  | _, 0, _ => True
  | _, _ + 1, [] => True
  | i, L + 1, o :: r => OpDo5 P ops Q D T S Sx C E a0 w0 M i o (C.idxOf? i) ∧ AllDo5 P ops Q D T S Sx C E a0 w0 M (i + 1) L r
theorem AllDo5.get {D : List (List Nat)} {T : List (Option Tmp)} {S : List Spec3} {Sx : Nat → Prop} {C : List Nat} {E : Nat → Value → World → Prop} {a0 : Act} {w0 : World} {M : Nat} : ∀ (l : List Oper) (k L : Nat), AllDo5 P ops Q D T S Sx C E a0 w0 M k L l → ∀ i o, l[i]? = some o → i < L →
    OpDo5 P ops Q D T S Sx C E a0 w0 M (k + i) o (C.idxOf? (k + i))
  | [], k, _, _, i, o, h, _ => by simp at h
  | o' :: r, k, 0, _, i, o, _, hi => by omega
  | o' :: r, k, L + 1, h, 0, o, ho, _ => by
    simp at ho; subst ho
    exact h.1
  | o' :: r, k, L + 1, h, i + 1, o, ho, hi => by
    have := AllDo5.get r (k + 1) L h.2 i o (by simpa using ho) (by omega)
    rw [show k + (i + 1) = k + 1 + i from by omega]
    exact this

theorem wp_region_hand (D : List (List Nat)) (T : List (Option Tmp)) (S : List Spec3) (Sx : Nat → Prop) (C : List Nat) (E : Nat → Value → World → Prop) (id : Nat) (a0 : Act) (w0 : World) (n L m : Nat) (hm : P.follows .mixedOrders = true) (hn : a0.tmps.size = n) (hsz : ops.size = m) (hLm : L ≤ m)
    (hD : (List.range m).map (depsOf .any ops) = D) (hT : (List.range m).map (dstOf ops) = T) (hp : plannedD D T n = true) (hch : chained4 D C L m = true) (hlo : ∀ k, Sx k → k < w0.heap.size) (hE0 : E 0 undef w0) (hE : ∀ c ev w w', E c ev w → Same w w' → E c ev w')
    (hop : AllDo5 P ops Q D T S Sx C E a0 w0 L 0 L ops.toList)
    (hend : ∀ (a : Act) (w : World), Keeps Sx w0 w → a.defers = a0.defers → a.tmps.size = n → (∀ j d, j < L → T.getD j none = some d → (S.getD j .any).holds Sx w0.heap.size w (a.tmps[d]?.getD undef)) → (∀ k, some k ∉ T.take L → a.tmps[k]?.getD undef = a0.tmps[k]?.getD undef) → ∀ ev, E C.length ev w → (∀ q d, C.length = q + 1 → T.getD (C.getD q 0) none = some d → a.tmps[d]?.getD undef = ev) → wpList P ops Q (ops.toList.drop L) a w) :
    (Code.region id ops true).wp P Q a0 w0 := by
  subst hsz
  have hTl : T.length = ops.size := by rw [← hT]; simp
  have gD : ∀ i, i < ops.size → D.getD i [] = depsOf .any ops i := fun i hi => map_range_getD hD hi
  have gT : ∀ i, i < ops.size → T.getD i none = dstOf ops i := fun i hi => map_range_getD hT hi
  have nT : ∀ k, (∀ j, j < ops.size → dstOf ops j ≠ some k) ↔ some k ∉ T := by
    intro k
    rw [← hT, List.mem_map]
    constructor
    · rintro h ⟨j, hj, he⟩
      exact h j (List.mem_range.1 hj) he
    · intro h j hj he
      exact h ⟨j, List.mem_range.2 hj, he⟩
  have hpl : planned .any ops n = true := by
    unfold planned
    unfold plannedD at hp
    rw [List.all_eq_true] at hp ⊢
    intro i hi
    have hi' := List.mem_range.1 hi
    have h1 := hp i (by rw [hTl]; exact hi)
    rw [gD i hi', gT i hi', hTl] at h1
    rw [Bool.and_eq_true] at h1 ⊢
    refine ⟨h1.1, ?_⟩
    have h2 := h1.2
    cases hd : dstOf ops i with
    | none => rfl
    | some d =>
      rw [hd] at h2
      simp only [Bool.and_eq_true, List.all_eq_true] at h2 ⊢
      refine ⟨h2.1, fun j hj => ?_⟩
      have h3 := h2.2 j hj
      rw [gT j (List.mem_range.1 hj)] at h3
      exact h3
  unfold chained4 at hch
  rw [Bool.and_eq_true, List.all_eq_true] at hch
  obtain ⟨hforced, hchain⟩ := hch
  have hF : ∀ t, L ≤ t → t < ops.size → ∀ j, j < t → ∃ i, j < i ∧ i ≤ t ∧ j ∈ D.getD i [] := by
    intro t ht htm j hj
    unfold forced at hforced
    rw [List.all_eq_true] at hforced
    have h := hforced t (List.mem_range.2 htm)
    rw [Bool.or_eq_true] at h
    rcases h with h | h
    · simp at h; omega
    · rw [List.all_eq_true] at h
      have h2 := h j (List.mem_range.2 hj)
      rw [List.any_eq_true] at h2
      obtain ⟨i, hi, h3⟩ := h2
      rw [Bool.and_eq_true, List.contains_iff_mem] at h3
      exact ⟨i, by simpa using h3.1, by have := List.mem_range.1 hi; omega, h3.2⟩
  have hC : ∀ p, p < C.length → C.getD p 0 < L ∧ (p = 0 ∨ C.getD (p - 1) 0 ∈ D.getD (C.getD p 0) []) ∧ ∀ q, q < C.length → p = q ∨ C.getD p 0 ≠ C.getD q 0 := by
    intro p hp
    have h := hchain p (List.mem_range.2 hp)
    rw [Bool.and_eq_true, Bool.and_eq_true, List.all_eq_true] at h
    refine ⟨by simpa using h.1.1, ?_, fun q hq => ?_⟩
    · have := h.1.2
      simp only [Bool.or_eq_true, beq_iff_eq, List.contains_iff_mem] at this
      exact this
    · have := h.2 q (List.mem_range.2 hq)
      simpa using this
  have depListed : ∀ (listed : Array Bool) (i : Nat) (o : Oper), ops[i]? = some o → (∀ e ∈ o.after, Region.binds .any e → listed.getD e.on false = true) → ∀ j ∈ depsOf .any ops i, listed.getD j false = true := by
    intro listed i o ho hdep j hj
    unfold depsOf at hj
    simp only [ho, Option.map_some, Option.getD_some, List.mem_map, List.mem_filter] at hj
    obtain ⟨e, ⟨he, hb⟩, rfl⟩ := hj
    exact hdep e (by simpa using he) hb
  -- what is listed is closed under what it waits for; where t is ready, all before it is listed
  have hclosed : ∀ (listed : Array Bool) (t : Nat) (o : Oper), (∀ i, i < ops.size → listed.getD i false = true → ∀ j ∈ depsOf .any ops i, listed.getD j false = true) → L ≤ t → t < ops.size → ops[t]? = some o → (∀ j ∈ depsOf .any ops t, listed.getD j false = true) → ∀ j, j < t → listed.getD j false = true := by
    intro listed t o hcl hLt htm ho hdt
    have key : ∀ n j, j + n = t → 1 ≤ n → listed.getD j false = true := by
      intro n
      induction n using Nat.strongRecOn with
      | _ n ih =>
        intro j hjn h1
        obtain ⟨i, hi1, hi2, hi3⟩ := hF t hLt htm j (by omega)
        rw [gD i (by omega)] at hi3
        by_cases hit : i = t
        · subst hit; exact hdt j hi3
        · exact hcl i (by omega) (ih (t - i) (by omega) i (by omega) (by omega)) j hi3
    intro j hj
    exact key (t - j) j (by omega) (by omega)
  refine wp_region_any hm ?_
  refine wpAny_inv (fun listed a w => listed.size = ops.size ∧ (∀ i, i < ops.size → listed.getD i false = true → ∀ j ∈ depsOf .any ops i, listed.getD j false = true) ∧
      (((∀ i, L ≤ i → i < ops.size → listed.getD i false = false) ∧ Keeps Sx w0 w ∧ a.defers = a0.defers ∧ a.tmps.size = n ∧ (∀ k, some k ∉ T.take L → a.tmps[k]?.getD undef = a0.tmps[k]?.getD undef) ∧
      (∀ j d, j < ops.size → T.getD j none = some d → listed.getD j false = true → (S.getD j .any).holds Sx w0.heap.size w (a.tmps[d]?.getD undef)) ∧
      ∃ c ev, c ≤ C.length ∧ (∀ q, q < c → listed.getD (C.getD q 0) false = true) ∧ (∀ q, c ≤ q → q < C.length → listed.getD (C.getD q 0) false = false) ∧ E c ev w ∧ (∀ q d, c = q + 1 → T.getD (C.getD q 0) none = some d → a.tmps[d]?.getD undef = ev)) ∨
      (∃ t, L ≤ t ∧ t ≤ ops.size ∧ (∀ i, i < t → listed.getD i false = true) ∧ (∀ i, t ≤ i → i < ops.size → listed.getD i false = false) ∧ wpList P ops Q (ops.toList.drop t) a w))) ?_ ?_ ops.size (Array.replicate ops.size false) a0 _ ?_ ?_
  · intro listed a w i ⟨h1, hcl, h⟩ hi
    obtain ⟨hl, o, ho, hdep⟩ := mem_ready.1 hi
    have hio : i < ops.size := (Array.getElem?_eq_some_iff.1 ho).1
    have hnl : listed.getD i false = false := by simpa [h1 ▸ hio] using hl
    have hdl := depListed listed i o ho hdep
    have hdo : dstOf ops i = o.dst := by simp [dstOf, ho]
    have hset : ∀ j, i ≠ j → (listed.setIfInBounds i true).getD j false = listed.getD j false := by
      intro j hij
      simp only [Array.getD_eq_getD_getElem?, Array.getElem?_setIfInBounds_ne hij]
    have hsetI : (listed.setIfInBounds i true).getD i false = true := by
      simp [h1 ▸ hio]
    have hup : ∀ j, listed.getD j false = true → (listed.setIfInBounds i true).getD j false = true := by
      intro j hj
      by_cases hij : i = j
      · subst hij; exact hsetI
      · rw [hset j hij]; exact hj
    have hcl' : ∀ q, q < ops.size → (listed.setIfInBounds i true).getD q false = true → ∀ j ∈ depsOf .any ops q, (listed.setIfInBounds i true).getD j false = true := by
      intro q hq hlq j hj
      by_cases hiq : i = q
      · subst hiq; exact hup j (hdl j hj)
      · rw [hset q hiq] at hlq
        exact hup j (hcl q hq hlq j hj)
    -- the forced end
    have stageB : ∀ t, L ≤ t → t ≤ ops.size → (∀ i, i < t → listed.getD i false = true) → (∀ i, t ≤ i → i < ops.size → listed.getD i false = false) → wpList P ops Q (ops.toList.drop t) a w →
        wpOp P ops Q i (fun a' w' => (listed.setIfInBounds i true).size = ops.size ∧ (∀ q, q < ops.size → (listed.setIfInBounds i true).getD q false = true → ∀ j ∈ depsOf .any ops q, (listed.setIfInBounds i true).getD j false = true) ∧
      (((∀ q, L ≤ q → q < ops.size → (listed.setIfInBounds i true).getD q false = false) ∧ Keeps Sx w0 w' ∧ a'.defers = a0.defers ∧ a'.tmps.size = n ∧ (∀ k, some k ∉ T.take L → a'.tmps[k]?.getD undef = a0.tmps[k]?.getD undef) ∧
      (∀ j d, j < ops.size → T.getD j none = some d → (listed.setIfInBounds i true).getD j false = true → (S.getD j .any).holds Sx w0.heap.size w' (a'.tmps[d]?.getD undef)) ∧
      ∃ c ev, c ≤ C.length ∧ (∀ q, q < c → (listed.setIfInBounds i true).getD (C.getD q 0) false = true) ∧ (∀ q, c ≤ q → q < C.length → (listed.setIfInBounds i true).getD (C.getD q 0) false = false) ∧ E c ev w' ∧ (∀ q d, c = q + 1 → T.getD (C.getD q 0) none = some d → a'.tmps[d]?.getD undef = ev)) ∨
      (∃ t, L ≤ t ∧ t ≤ ops.size ∧ (∀ q, q < t → (listed.setIfInBounds i true).getD q false = true) ∧ (∀ q, t ≤ q → q < ops.size → (listed.setIfInBounds i true).getD q false = false) ∧ wpList P ops Q (ops.toList.drop t) a' w'))) a w := by
      intro t htL htm hlt hge hwp
      have hit : i = t := by
        by_cases hit : i < t
        · rw [hlt i hit] at hnl; simp at hnl
        · by_cases hgt : t < i
          · have := hclosed listed i o hcl (by omega) hio ho hdl t hgt
            rw [hge t (Nat.le_refl _) (by omega)] at this; simp at this
          · omega
      subst hit
      have hdrop : ops.toList.drop i = o :: ops.toList.drop (i + 1) := by
        rw [List.drop_eq_getElem_cons (by simpa using hio)]
        congr 1
        have := ho
        simp only [Array.getElem?_eq_getElem hio, Option.some.injEq] at this
        simpa using this
      rw [hdrop] at hwp
      have hnext : ∀ a' w', wpList P ops Q (ops.toList.drop (i + 1)) a' w' → _ := fun a' w' hq => (⟨by simpa using h1, hcl', .inr ⟨i + 1, by omega, by omega, fun q hq => by
          by_cases hiq : i = q
          · subst hiq; exact hsetI
          · rw [hset q hiq]; exact hlt q (by omega), fun q hq hq2 => by rw [hset q (by omega)]; exact hge q (by omega) hq2, hq⟩⟩ :
        (listed.setIfInBounds i true).size = ops.size ∧ (∀ q, q < ops.size → (listed.setIfInBounds i true).getD q false = true → ∀ j ∈ depsOf .any ops q, (listed.setIfInBounds i true).getD j false = true) ∧
      (((∀ q, L ≤ q → q < ops.size → (listed.setIfInBounds i true).getD q false = false) ∧ Keeps Sx w0 w' ∧ a'.defers = a0.defers ∧ a'.tmps.size = n ∧ (∀ k, some k ∉ T.take L → a'.tmps[k]?.getD undef = a0.tmps[k]?.getD undef) ∧
      (∀ j d, j < ops.size → T.getD j none = some d → (listed.setIfInBounds i true).getD j false = true → (S.getD j .any).holds Sx w0.heap.size w' (a'.tmps[d]?.getD undef)) ∧
      ∃ c ev, c ≤ C.length ∧ (∀ q, q < c → (listed.setIfInBounds i true).getD (C.getD q 0) false = true) ∧ (∀ q, c ≤ q → q < C.length → (listed.setIfInBounds i true).getD (C.getD q 0) false = false) ∧ E c ev w' ∧ (∀ q d, c = q + 1 → T.getD (C.getD q 0) none = some d → a'.tmps[d]?.getD undef = ev)) ∨
      (∃ t, L ≤ t ∧ t ≤ ops.size ∧ (∀ q, q < t → (listed.setIfInBounds i true).getD q false = true) ∧ (∀ q, t ≤ q → q < ops.size → (listed.setIfInBounds i true).getD q false = false) ∧ wpList P ops Q (ops.toList.drop t) a' w')))
      unfold wpList at hwp
      unfold wpOp
      rw [ho]
      show if Region.wanted o (yielded ops a.tmps) = true then _ else _
      split at hwp
      · next hw =>
        rw [if_pos hw]
        rcases hwp with hwp | hwp
        · exact .inl (Oper.wp_mono hnext hwp)
        · exact .inr hwp
      · next hw => rw [if_neg hw]; exact hnext _ _ hwp
    rcases h with ⟨hL, h2, h3, h4, h5, h6, c, ev, hc, hc1, hc2, hEc, hev⟩ | ⟨t, ht1, ht2, ht3, ht4, hwp⟩
    case inr => exact stageB t ht1 ht2 ht3 ht4 hwp
    by_cases hiL : L ≤ i
    · have hall : ∀ j, j < L → listed.getD j false = true := fun j hj => hclosed listed i o hcl hiL hio ho hdl j (by omega)
      have hcl2 : c = C.length := by
        by_cases hcl2 : c < C.length
        · have h7 := hc2 c (Nat.le_refl _) hcl2
          rw [hall _ (hC c hcl2).1] at h7
          simp at h7
        · omega
      exact stageB L (Nat.le_refl _) (by omega) hall hL (hend a w h2 h3 h4 (fun j d hj hd => h6 j d (by omega) hd (hall j hj)) h5 ev (hcl2 ▸ hEc) (hcl2 ▸ hev))
    · have hod := AllDo5.get ops.toList 0 L hop i o (by simpa using ho) (by omega)
      rw [Nat.zero_add] at hod
      have hput : ∀ (v : Value) k, o.dst ≠ some k → (a.put o.dst v).tmps[k]?.getD undef = a.tmps[k]?.getD undef := by
        intro v k hk
        unfold Act.put
        cases hd : o.dst with
        | none => rfl
        | some d =>
          have hdk : d ≠ k := fun e => hk (by rw [hd, e])
          simp only [Array.getElem?_setIfInBounds_ne hdk]
      have hdeps : ∀ j ∈ D.getD i [], ∀ d, T.getD j none = some d → (S.getD j .any).holds Sx w0.heap.size w (a.tmps[d]?.getD undef) := by
        intro j hj d hd
        rw [gD i hio] at hj
        have hji := planned_deps hpl hio j hj
        exact h6 j d (by omega) hd (hdl j hj)
      refine wpOp_step ho fun K' hK => ?_
      have fin : ∀ v w', Keeps Sx w w' → (S.getD i .any).holds Sx w0.heap.size w' v → (∃ c ev, c ≤ C.length ∧ (∀ q, q < c → (listed.setIfInBounds i true).getD (C.getD q 0) false = true) ∧ (∀ q, c ≤ q → q < C.length → (listed.setIfInBounds i true).getD (C.getD q 0) false = false) ∧ E c ev w' ∧ (∀ q d, c = q + 1 → T.getD (C.getD q 0) none = some d → (a.put o.dst v).tmps[d]?.getD undef = ev)) → K' (a.put o.dst v) w' := by
        intro v w' hs hv hce
        refine hK _ _ ⟨by simpa using h1, hcl', .inl ⟨fun q hq hq2 => by rw [hset _ (by omega)]; exact hL q hq hq2, h2.trans hs (fun _ _ e => e), ?_, ?_, fun k hk => ?_, fun j d hj hd hlj => ?_, hce⟩⟩
        · unfold Act.put; cases o.dst <;> exact h3
        · unfold Act.put
          cases o.dst with
          | none => exact h4
          | some d => simpa using h4
        · rw [hput v k (fun e => hk (by
            have h := gT i hio
            rw [hdo, e, List.getD_eq_getElem?_getD] at h
            rw [List.mem_iff_getElem?]
            refine ⟨i, ?_⟩
            rw [List.getElem?_take_of_lt (by omega)]
            cases hq : T[i]? with
            | none => rw [hq] at h; simp at h
            | some z => rw [hq] at h; simp at h; rw [h]))]
          exact h5 k hk
        · rw [gT j hj] at hd
          by_cases hij : i = j
          · subst hij
            rw [hdo] at hd
            have hdn := (planned_dst hpl hio (by rw [hdo, hd])).1
            have : (a.put o.dst v).tmps[d]?.getD undef = v := by
              unfold Act.put
              rw [hd]
              simp [h4, hdn]
            rw [this]
            exact hv
          · have hne : o.dst ≠ some d := fun e => (planned_dst hpl hio (by rw [hdo, e])).2 j hj hij hd
            rw [hput v d hne]
            rw [hset j hij] at hlj
            exact (h6 j d hj (by rw [gT j hj]; exact hd) hlj).keep hlo hs
      cases hx : C.idxOf? i with
      | none =>
        rw [hx] at hod
        have hne := idx_none hx
        exact hod a w K' h2 hdeps h5 fun v w' hs hv => fin v w' ((Keeps.refl Sx w).trans hs (fun _ _ e => e.elim)) hv
          ⟨c, ev, hc, fun q hq => by rw [hset _ (fun e => hne q (by omega) e.symm)]; exact hc1 q hq, fun q hq hq2 => by rw [hset _ (fun e => hne q hq2 e.symm)]; exact hc2 q hq hq2, hE _ _ _ _ hEc hs, fun q d hq hd => by
            have hql : q < C.length := by omega
            have hjl : C.getD q 0 < ops.size := by have := (hC q hql).1; omega
            rw [gT _ hjl] at hd
            rw [hput v d (fun e => (planned_dst hpl hio (by rw [hdo, e])).2 _ hjl (fun e2 => hne q hql e2.symm) hd)]
            exact hev q d hq (by rw [gT _ hjl]; exact hd)⟩
      | some p =>
        rw [hx] at hod
        obtain ⟨hpl2, hpi⟩ := idx_some hx
        obtain ⟨_, hprev, hnd⟩ := hC p hpl2
        have hcp : c = p := by
          have h8 : c ≤ p := by
            by_cases h8 : p < c
            · have := hc1 p h8
              rw [hpi, hnl] at this; simp at this
            · omega
          have h9 : p ≤ c := by
            by_cases h9 : c < p
            · rcases hprev with h0 | hd
              · omega
              · rw [hpi, gD i hio] at hd
                have h10 := hdl _ hd
                rw [hc2 (p - 1) (by omega) (by omega)] at h10
                simp at h10
            · omega
          omega
        subst hcp
        exact hod a w K' h2 hdeps h5 ev hEc hev fun v w' hs hE' hv => fin v w' hs hv
          ⟨c + 1, v, by omega, fun q hq => by
            by_cases hqc : q = c
            · subst hqc; rw [hpi]; exact hsetI
            · rcases hnd q (by omega) with e | e
              · omega
              · rw [hset _ (fun h => e (by rw [hpi, h]))]; exact hc1 q (by omega),
           fun q hq hq2 => by
            rcases hnd q hq2 with e | e
            · omega
            · rw [hset _ (fun h => e (by rw [hpi, h]))]; exact hc2 q (by omega) hq2, hE', fun q d hq hd => by
            have hqc : q = c := by omega
            subst hqc
            rw [hpi, gT i hio, hdo] at hd
            have hdn := (planned_dst hpl hio (by rw [hdo, hd])).1
            unfold Act.put
            rw [hd]
            simp [h4, hdn]⟩
  · intro listed a w ⟨h1, hcl, h⟩ hr
    have hal := all_listed hpl h1 hr
    have hdrop0 : ops.toList.drop ops.size = [] := List.drop_of_length_le (by simp)
    rcases h with ⟨hL, h2, h3, h4, h5, h6, c, ev, hc, hc1, hc2, hEc, hev⟩ | ⟨t, ht1, ht2, ht3, ht4, hwp⟩
    · have hLs : L = ops.size := by
        by_cases hLs : L < ops.size
        · have := hL L (Nat.le_refl _) hLs
          rw [hal L hLs] at this; simp at this
        · omega
      have hcl2 : c = C.length := by
        by_cases hcl2 : c < C.length
        · have h7 := hc2 c (Nat.le_refl _) hcl2
          rw [hal _ (by have := (hC c hcl2).1; omega)] at h7
          simp at h7
        · omega
      have := hend a w h2 h3 h4 (fun j d hj hd => h6 j d (by omega) hd (hal j (by omega))) h5 ev (hcl2 ▸ hEc) (hcl2 ▸ hev)
      rw [hLs, hdrop0] at this
      exact this
    · have hts : t = ops.size := by
        by_cases hts : t < ops.size
        · have := ht4 t (Nat.le_refl _) hts
          rw [hal t hts] at this; simp at this
        · omega
      rw [hts, hdrop0] at hwp
      exact hwp
  · have hrep : ∀ i, (Array.replicate ops.size false).getD i false = false := by
      intro i
      simp only [Array.getD_eq_getD_getElem?, Array.getElem?_replicate]
      split <;> rfl
    refine ⟨by simp, fun i _ hi => by rw [hrep] at hi; simp at hi, .inl ⟨fun i _ _ => hrep i, ((Keeps.refl _ _).drew), rfl, hn, fun _ _ => rfl, fun j d hj hd hl => by rw [hrep] at hl; simp at hl, 0, undef, Nat.zero_le _, fun q hq => by omega, fun q _ hq => hrep _, hE _ _ _ _ hE0 (Keeps.refl _ _).drew, fun q d hq => by omega⟩⟩
  · simp
end

end Go.Proofs.YtafgiljgefeefaaDoor
