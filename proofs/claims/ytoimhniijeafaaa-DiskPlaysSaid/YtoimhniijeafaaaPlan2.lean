/- What stands in the temporaries of a drawn region, said by a list. No program is named here. -/
import Derived.Test.YtoimhniijeafaaaPlan
import Derived.Test.YtoimhniijeafaaaApp
namespace Go.Proofs.Ytoimhniijeafaaa
open Go.RowKit
set_option linter.unusedVariables false

/-- A slice that reads as bytes and can be made a string. -/
def Reads (w : World) (v : Value) (b : List UInt8) : Prop := ∃ ao c, v = .slice ao b.length c ∧ Bytes w v b ∧ (∀ a, ao = some a → b ≠ [] → a.spot = none) ∧ b.length ≤ c
theorem Reads.same {w w' : World} {v : Value} {b : List UInt8} (h : Reads w v b) (k : Same w w') : Reads w' v b := by
  obtain ⟨ao, c, e, h1, h2⟩ := h
  exact ⟨ao, c, e, h1.same k, h2⟩
theorem Reads.of_own {w : World} {base : Nat} {e : TypeId} {v : Value} {b : List UInt8} {n : Nat} (h : w.ownsRow base e 1 v n (u8s b)) (hn : b.length = n) : Reads w v b := by
  subst hn
  obtain ⟨ao, c, rfl⟩ := (Bytes.of_own h).form
  refine ⟨ao, c, rfl, Bytes.of_own h, fun a e _ => own_spot h a _ _ (by rw [e]), ?_⟩
  rcases h.2 with ⟨e, h0⟩ | ⟨g, cp, cur, e, _, _, h2, _⟩
  · omega
  · simp only [Value.slice.injEq] at e; omega
theorem Reads.nil (w : World) (ao : Option Addr) (c : Nat) : Reads w (.slice ao 0 c) [] := ⟨ao, c, rfl, Bytes.nil _ _ _, fun _ _ h => absurd rfl h, Nat.zero_le _⟩

inductive Spec where
  | is (v : Value)
  | reads (b : List UInt8)
  | any
def Spec.holds (s : Spec) (w : World) (v : Value) : Prop :=
  match s with
  | .is u => v = u
  | .reads b => Reads w v b
  | .any => True
theorem Spec.holds.same {s : Spec} {w w' : World} {v : Value} (h : s.holds w v) (k : Same w w') : s.holds w' v := by
  cases s with
  | is u => exact h
  | reads b => exact Reads.same h k
  | any => trivial

section
variable {P : Program} {ops : Array Oper} {Q : Exit → Act → World → Prop}

def plannedD (D : List (List Nat)) (T : List (Option Tmp)) (n : Nat) : Bool :=
  (List.range T.length).all fun i => (D.getD i []).all (· < i) && (match T.getD i none with | none => true | some d => decide (d < n) && (List.range T.length).all fun j => i == j || T.getD j none != some d)

/-- What operation number i has to do. -/
def OpDo (P : Program) (ops : Array Oper) (Q : Exit → Act → World → Prop) (D : List (List Nat)) (T : List (Option Tmp)) (S : List Spec) (a0 : Act) (w0 : World) (i : Nat) (o : Oper) : Prop :=
  ∀ (a : Act) (w : World) (K : Act → World → Prop), Same w0 w → (∀ j ∈ D.getD i [], ∀ d, T.getD j none = some d → (S.getD j .any).holds w (a.tmps[d]?.getD undef)) → (∀ k, some k ∉ T → a.tmps[k]?.getD undef = a0.tmps[k]?.getD undef) →
    (∀ v w', Same w w' → (S.getD i .any).holds w' v → K (a.put o.dst v) w') → if Region.wanted o (yielded ops a.tmps) = true then Oper.wp P o a w K Q else K (a.put o.dst undef) w
def AllDo (P : Program) (ops : Array Oper) (Q : Exit → Act → World → Prop) (D : List (List Nat)) (T : List (Option Tmp)) (S : List Spec) (a0 : Act) (w0 : World) : Nat → List Oper → Prop
  | _, [] => True
  | i, o :: r => OpDo P ops Q D T S a0 w0 i o ∧ AllDo P ops Q D T S a0 w0 (i + 1) r

theorem eval_tmp (a : Act) (k : Nat) : a.eval (.tmp k) = a.tmps[k]?.getD undef := by simp [Act.eval]
theorem map_range_getD {α : Type} {f : Nat → α} {n : Nat} {l : List α} {d : α} (h : (List.range n).map f = l) {i : Nat} (hi : i < n) : l.getD i d = f i := by
  rw [← h]; simp [hi]

theorem wp_region_do (D : List (List Nat)) (T : List (Option Tmp)) (S : List Spec) (id : Nat) (a0 : Act) (w0 : World) (n m : Nat) (hm : P.follows .mixedOrders = true) (hn : a0.tmps.size = n) (hsz : ops.size = m)
    (hD : (List.range m).map (depsOf .any ops) = D) (hT : (List.range m).map (dstOf ops) = T) (hp : plannedD D T n = true) (hop : AllDo P ops Q D T S a0 w0 0 ops.toList)
    (hend : ∀ a w, Same w0 w → a.defers = a0.defers → a.tmps.size = n → (∀ j d, T.getD j none = some d → (S.getD j .any).holds w (a.tmps[d]?.getD undef)) → (∀ k, some k ∉ T → a.tmps[k]?.getD undef = a0.tmps[k]?.getD undef) → Q .normal a w) :
    (Code.region id ops true).wp P Q a0 w0 := by
  subst hsz
  have hTl : T.length = ops.size := by rw [← hT]; simp
  have gD : ∀ i, i < ops.size → D.getD i [] = depsOf .any ops i := fun i hi => map_range_getD hD hi
  have gT : ∀ i, i < ops.size → T.getD i none = dstOf ops i := fun i hi => map_range_getD hT hi
  have nT : ∀ k, (∀ j, j < ops.size → dstOf ops j ≠ some k) ↔ some k ∉ T := by
    intro k
    rw [← hT, List.mem_map]
    constructor
    · rintro h ⟨j, hj, he⟩
      exact h j (List.mem_range.1 hj) he
    · intro h j hj he
      exact h ⟨j, List.mem_range.2 hj, he⟩
  refine wp_region_plan (fun i w v => (S.getD i .any).holds w v) id a0 w0 n hm hn ?_ (fun i w w' v h k => h.same k) ?_ ?_
  · unfold planned
    unfold plannedD at hp
    rw [List.all_eq_true] at hp ⊢
    intro i hi
    have hi' := List.mem_range.1 hi
    have h1 := hp i (by rw [hTl]; exact hi)
    rw [gD i hi', gT i hi', hTl] at h1
    rw [Bool.and_eq_true] at h1 ⊢
    refine ⟨h1.1, ?_⟩
    have h2 := h1.2
    cases hd : dstOf ops i with
    | none => rfl
    | some d =>
      rw [hd] at h2
      simp only [Bool.and_eq_true, List.all_eq_true] at h2 ⊢
      refine ⟨h2.1, fun j hj => ?_⟩
      have h3 := h2.2 j hj
      rw [gT j (List.mem_range.1 hj)] at h3
      exact h3
  · have key : ∀ (l : List Oper) (k : Nat), k + l.length ≤ ops.size → AllDo P ops Q D T S a0 w0 k l → AllPlan P .any ops Q (fun i w v => (S.getD i .any).holds w v) a0 w0 k l := by
      intro l
      induction l with
      | nil => intro k _ _; trivial
      | cons o r ih =>
        intro k hk h
        simp only [List.length_cons] at hk
        refine ⟨fun a w K hs hdep hfr hK => h.1 a w K hs (fun j hj d hd => ?_) (fun q hq => by have := hfr q ((nT q).2 hq); simpa using this) hK, ih (k + 1) (by omega) h.2⟩
        have hjs : j < ops.size := by
          by_cases hjs : j < ops.size
          · exact hjs
          · rw [List.getD_eq_getElem?_getD, List.getElem?_eq_none (by omega)] at hd; simp at hd
        rw [gT j hjs] at hd
        rw [gD k (by omega)] at hj
        have := hdep j hj d hd
        rw [Array.getD_eq_getD_getElem?] at this
        exact this
    exact key _ 0 (by simp) hop
  · intro a w h1 h2 h3 h4 h5
    refine hend a w h1 h2 h3 (fun j d hd => ?_) (fun k hk => by have := h5 k ((nT k).2 hk); simpa using this)
    have hjs : j < ops.size := by
      by_cases hjs : j < ops.size
      · exact hjs
      · rw [List.getD_eq_getElem?_getD, List.getElem?_eq_none (by omega)] at hd; simp at hd
    have := h4 j d hjs (by rw [← gT j hjs]; exact hd)
    rw [Array.getD_eq_getD_getElem?] at this
    exact this
end

/-- A guarded operation is wanted where its guard says so. -/
theorem wanted_of {ops : Array Oper} {o : Oper} {tmps : Array Value} (j d : Nat) (b : Bool) (hg : o.guard = some (j, b)) (hd : (ops[j]?).bind (·.dst) = some d) (h : tmps[d]?.getD undef = .bool b) : Region.wanted o (yielded ops tmps) = true := by
  unfold Region.wanted
  rw [hg]
  have h2 : tmps[d]? = some (.bool b) := by
    cases hq : tmps[d]? with
    | none => rw [hq] at h; simp [undef] at h
    | some v => rw [hq] at h; simp at h; rw [h]
  simp [yielded, hd, h2]
/-- The temporaries behind such a region, written out. -/
def putAll (val : Tmp → Value) : List (Option Tmp) → Array Value → Array Value
  | [], acc => acc
  | some d :: r, acc => putAll val r (acc.setIfInBounds d (val d))
  | none :: r, acc => putAll val r acc
theorem putAll_size (val : Tmp → Value) : ∀ (T : List (Option Tmp)) (acc : Array Value), (putAll val T acc).size = acc.size
  | [], acc => rfl
  | some d :: r, acc => by rw [putAll, putAll_size val r]; simp
  | none :: r, acc => putAll_size val r acc
theorem putAll_get (val : Tmp → Value) (k : Nat) : ∀ (T : List (Option Tmp)) (acc : Array Value), k < acc.size → (putAll val T acc)[k]?.getD undef = if some k ∈ T then val k else acc[k]?.getD undef
  | [], acc, _ => by simp [putAll]
  | some d :: r, acc, hk => by
    rw [putAll, putAll_get val k r _ (by simpa using hk)]
    by_cases hr : some k ∈ r
    · simp [hr]
    · by_cases hdk : d = k
      · subst hdk
        simp [hr, hk]
      · have h1 : ¬ some k ∈ some d :: r := by
          simp only [List.mem_cons, Option.some.injEq, not_or]
          exact ⟨fun e => hdk e.symm, hr⟩
        rw [if_neg hr, if_neg h1, Array.getElem?_setIfInBounds_ne hdk]
  | none :: r, acc, hk => by
    rw [putAll, putAll_get val k r acc hk]
    simp
theorem act_after {R : Act → Prop} (a a0 : Act) (T : List (Option Tmp)) (n : Nat) (hn : a0.tmps.size = n) (hs : a.tmps.size = n) (hd : a.defers = a0.defers) (hfr : ∀ k, some k ∉ T → a.tmps[k]?.getD undef = a0.tmps[k]?.getD undef)
    (val : Tmp → Value) (hval : ∀ d, some d ∈ T → a.tmps[d]?.getD undef = val d) (h : R ⟨putAll val T a0.tmps, a0.defers⟩) : R a := by
  have he : a = ⟨putAll val T a0.tmps, a0.defers⟩ := by
    obtain ⟨tm, df⟩ := a
    simp only at hs hd hfr hval
    subst hd
    congr 1
    apply Array.ext
    · rw [putAll_size, hs, hn]
    · intro k h1 h2
      have h3 := putAll_get val k T a0.tmps (by omega)
      rw [Array.getElem?_eq_getElem h2, Option.getD_some] at h3
      rw [h3]
      have h4 : tm[k] = tm[k]?.getD undef := by rw [Array.getElem?_eq_getElem h1, Option.getD_some]
      rw [h4]
      split
      · next hm => exact hval k hm
      · next hm => exact hfr k hm
  rw [he]
  exact h

theorem act_eq (a a0 : Act) (T : List (Option Tmp)) (n : Nat) (hn : a0.tmps.size = n) (hs : a.tmps.size = n) (hd : a.defers = a0.defers) (hfr : ∀ k, some k ∉ T → a.tmps[k]?.getD undef = a0.tmps[k]?.getD undef)
    (val : Tmp → Value) (hval : ∀ d, some d ∈ T → a.tmps[d]?.getD undef = val d) : a = ⟨putAll val T a0.tmps, a0.defers⟩ :=
  act_after (R := fun b => b = ⟨putAll val T a0.tmps, a0.defers⟩) a a0 T n hn hs hd hfr val hval rfl

end Go.Proofs.Ytoimhniijeafaaa
