/- A drawn region with a chain of calls that change something (an eye's place), and an operation at its end that waits for all. No program is named here. -/
import Derived.Test.YtoimhniijeafaaaPlan2
namespace Go.Proofs.Ytoimhniijeafaaa
open Go.RowKit
set_option linter.unusedVariables false

inductive Spec3 where
  | is (v : Value)
  | reads (b : List UInt8)
  | fresh (t : TypeId) (cs : Array Value)
  | own (e : TypeId) (b : List UInt8)
  | aggReads (f : Value → Value) (b : List UInt8)
  | lit (t : TypeId) (cs : Array Value)
  | ownv (e : TypeId) (xs : List Value)
  | litN (t : TypeId) (cs : Array Value) (n : Nat)
  | ex (p : Nat → World → Value → Prop) (hp : ∀ (Sx : Nat → Prop) (lo : Nat) (w w' : World) (v : Value), (∀ k, Sx k → k < lo) → p lo w v → Keeps Sx w w' → p lo w' v)
  | any
def Spec3.holds (Sx : Nat → Prop) (lo : Nat) (s : Spec3) (w : World) (v : Value) : Prop :=
  match s with
  | .is u => v = u
  | .reads b => Reads w v b ∧ ∀ a n c, v = .slice (some a) n c → ¬ Sx a.block
  | .fresh t cs => ∃ G, v = .pointer (some ⟨G, 0, none⟩) ∧ lo ≤ G ∧ w.heap[G]? = some (.cells cs t (0, 0))
  | .own e b => ∃ g cap, v = .slice (some ⟨g, 0, none⟩) b.length cap ∧ w.ownsRow lo e 1 (.slice (some ⟨g, 0, none⟩) b.length cap) b.length (u8s b)
  | .aggReads f b => ∃ r, v = f r ∧ Reads w r b ∧ ∀ a n c, r = .slice (some a) n c → ¬ Sx a.block
  | .lit t cs => ∃ G, v = .slice (some ⟨G, 0, none⟩) cs.size cs.size ∧ lo ≤ G ∧ w.heap[G]? = some (.cells cs t (0, 0))
  | .litN t cs n => ∃ G, v = .slice (some ⟨G, 0, none⟩) n n ∧ lo ≤ G ∧ w.heap[G]? = some (.cells cs t (0, 0))
  | .ownv e xs => ∃ g cap, v = .slice (some ⟨g, 0, none⟩) xs.length cap ∧ w.ownsRow lo e 1 (.slice (some ⟨g, 0, none⟩) xs.length cap) xs.length xs
  | .ex p _ => p lo w v
  | .any => True
theorem Spec3.holds.keep {Sx : Nat → Prop} {lo : Nat} (hlo : ∀ k, Sx k → k < lo) {s : Spec3} {w w' : World} {v : Value} (h : s.holds Sx lo w v) (k : Keeps Sx w w') : s.holds Sx lo w' v := by
  cases s with
  | is u => exact h
  | reads b =>
    obtain ⟨⟨ao, c, e, h1, h2⟩, h3⟩ := h
    exact ⟨⟨ao, c, e, h1.keeps k (fun a n c e => h3 a n c e), h2⟩, h3⟩
  | fresh t cs =>
    obtain ⟨G, e, h1, h2⟩ := h
    exact ⟨G, e, h1, k.obj h2 (fun hs => by have := hlo _ hs; omega)⟩
  | own e b =>
    obtain ⟨g, cap, e1, h1⟩ := h
    exact ⟨g, cap, e1, own_keeps k h1 (fun q e2 hs => by have := (h1.lt q e2).1; have := hlo _ hs; omega)⟩
  | aggReads f b =>
    obtain ⟨r, e0, ⟨ao, c, e, h1, h2⟩, h3⟩ := h
    exact ⟨r, e0, ⟨ao, c, e, h1.keeps k (fun a n c e => h3 a n c e), h2⟩, h3⟩
  | lit t cs =>
    obtain ⟨G, e, h1, h2⟩ := h
    exact ⟨G, e, h1, k.obj h2 (fun hs => by have := hlo _ hs; omega)⟩
  | litN t cs n =>
    obtain ⟨G, e, h1, h2⟩ := h
    exact ⟨G, e, h1, k.obj h2 (fun hs => by have := hlo _ hs; omega)⟩
  | ownv e xs =>
    obtain ⟨g, cap, e1, h1⟩ := h
    exact ⟨g, cap, e1, own_keeps k h1 (fun q e2 hs => by have := (h1.lt q e2).1; have := hlo _ hs; omega)⟩
  | ex p hp => exact hp Sx lo w w' v hlo h k
  | any => trivial

section
variable {P : Program} {ops : Array Oper} {Q : Exit → Act → World → Prop}

/-- What operation number i has to do; p is its place in the chain. -/
def OpDo3 (P : Program) (ops : Array Oper) (Q : Exit → Act → World → Prop) (D : List (List Nat)) (T : List (Option Tmp)) (S : List Spec3) (Sx : Nat → Prop) (E : Nat → World → Prop) (a0 : Act) (w0 : World) (i : Nat) (o : Oper) : Option Nat → Prop
  | none => ∀ (a : Act) (w : World) (K : Act → World → Prop), Keeps Sx w0 w → (∀ j ∈ D.getD i [], ∀ d, T.getD j none = some d → (S.getD j .any).holds Sx w0.heap.size w (a.tmps[d]?.getD undef)) → (∀ k, some k ∉ T → a.tmps[k]?.getD undef = a0.tmps[k]?.getD undef) →
      (∀ v w', Same w w' → (S.getD i .any).holds Sx w0.heap.size w' v → K (a.put o.dst v) w') → if Region.wanted o (yielded ops a.tmps) = true then Oper.wp P o a w K Q else K (a.put o.dst undef) w
  | some p => ∀ (a : Act) (w : World) (K : Act → World → Prop), Keeps Sx w0 w → (∀ j ∈ D.getD i [], ∀ d, T.getD j none = some d → (S.getD j .any).holds Sx w0.heap.size w (a.tmps[d]?.getD undef)) → (∀ k, some k ∉ T → a.tmps[k]?.getD undef = a0.tmps[k]?.getD undef) → E p w →
      (∀ v w', Keeps Sx w w' → E (p + 1) w' → (S.getD i .any).holds Sx w0.heap.size w' v → K (a.put o.dst v) w') → if Region.wanted o (yielded ops a.tmps) = true then Oper.wp P o a w K Q else K (a.put o.dst undef) w
/-- The last operation, which waits for all. -/
def OpLast (P : Program) (ops : Array Oper) (Q : Exit → Act → World → Prop) (T : List (Option Tmp)) (S : List Spec3) (Sx : Nat → Prop) (E : Nat → World → Prop) (a0 : Act) (w0 : World) (n c L : Nat) (o : Oper) : Prop :=
  ∀ (a : Act) (w : World), Keeps Sx w0 w → a.defers = a0.defers → a.tmps.size = n → (∀ j d, j < L → T.getD j none = some d → (S.getD j .any).holds Sx w0.heap.size w (a.tmps[d]?.getD undef)) → (∀ k, some k ∉ T → a.tmps[k]?.getD undef = a0.tmps[k]?.getD undef) → E c w →
    if Region.wanted o (yielded ops a.tmps) = true then Oper.wp P o a w (fun a' w' => Q .normal a' w') Q else Q .normal (a.put o.dst undef) w
def AllDo3 (P : Program) (ops : Array Oper) (Q : Exit → Act → World → Prop) (D : List (List Nat)) (T : List (Option Tmp)) (S : List Spec3) (Sx : Nat → Prop) (C : List Nat) (E : Nat → World → Prop) (a0 : Act) (w0 : World) (n : Nat) : Nat → List Oper → Prop
  | _, [] => True
  | i, [o] => OpLast P ops Q T S Sx E a0 w0 n C.length i o
  | i, o :: o' :: r => OpDo3 P ops Q D T S Sx E a0 w0 i o (C.idxOf? i) ∧ AllDo3 P ops Q D T S Sx C E a0 w0 n (i + 1) (o' :: r)
theorem AllDo3.get {D : List (List Nat)} {T : List (Option Tmp)} {S : List Spec3} {Sx : Nat → Prop} {C : List Nat} {E : Nat → World → Prop} {a0 : Act} {w0 : World} {n : Nat} : ∀ (l : List Oper) (k : Nat), AllDo3 P ops Q D T S Sx C E a0 w0 n k l → ∀ i o, l[i]? = some o →
    (i + 1 < l.length → OpDo3 P ops Q D T S Sx E a0 w0 (k + i) o (C.idxOf? (k + i))) ∧ (i + 1 = l.length → OpLast P ops Q T S Sx E a0 w0 n C.length (k + i) o)
  | [], k, _, i, o, h => by simp at h
  | [o'], k, h, 0, o, ho => by
    simp at ho; subst ho
    exact ⟨fun h => by simp at h, fun _ => h⟩
  | [o'], k, h, i + 1, o, ho => by simp at ho
  | o' :: o2 :: r, k, h, 0, o, ho => by
    simp at ho; subst ho
    exact ⟨fun _ => h.1, fun h => by simp at h⟩
  | o' :: o2 :: r, k, h, i + 1, o, ho => by
    have := AllDo3.get (o2 :: r) (k + 1) h.2 i o (by simpa using ho)
    rw [show k + (i + 1) = k + 1 + i from by omega]
    exact ⟨fun h => this.1 (by simp at h ⊢; omega), fun h => this.2 (by simp at h ⊢; omega)⟩

/-- The chain: each of it waits for the one before; all come ahead of the last operation, which waits for all. -/
def chained (D : List (List Nat)) (C : List Nat) (m : Nat) : Bool :=
  (List.range (m - 1)).all (fun j => (D.getD (m - 1) []).contains j) && (List.range C.length).all (fun p => decide (C.getD p 0 < m - 1) && (p == 0 || (D.getD (C.getD p 0) []).contains (C.getD (p - 1) 0)) && (List.range C.length).all (fun q => p == q || C.getD p 0 != C.getD q 0))

theorem idx_some : ∀ {C : List Nat} {i p : Nat}, C.idxOf? i = some p → p < C.length ∧ C.getD p 0 = i
  | [], i, p, h => by simp at h
  | x :: C, i, p, h => by
    rw [List.idxOf?_cons] at h
    split at h
    · next e => simp at h e; subst h; simp [e]
    · obtain ⟨q, hq, rfl⟩ := Option.map_eq_some_iff.1 h
      have := idx_some hq
      exact ⟨by simp; omega, by simpa using this.2⟩
theorem idx_none : ∀ {C : List Nat} {i : Nat}, C.idxOf? i = none → ∀ p, p < C.length → C.getD p 0 ≠ i := by
  intro C i h p hp
  rw [List.idxOf?_eq_none_iff] at h
  intro e
  apply h
  rw [← e, List.getD_eq_getElem?_getD, List.getElem?_eq_getElem hp, Option.getD_some]
  exact List.getElem_mem hp

theorem wp_region_chain (D : List (List Nat)) (T : List (Option Tmp)) (S : List Spec3) (Sx : Nat → Prop) (C : List Nat) (E : Nat → World → Prop) (id : Nat) (a0 : Act) (w0 : World) (n m : Nat) (hm : P.follows .mixedOrders = true) (hn : a0.tmps.size = n) (hsz : ops.size = m) (hm1 : 1 ≤ m)
    (hD : (List.range m).map (depsOf .any ops) = D) (hT : (List.range m).map (dstOf ops) = T) (hp : plannedD D T n = true) (hch : chained D C m = true) (hlo : ∀ k, Sx k → k < w0.heap.size) (hE0 : E 0 w0) (hE : ∀ c w w', E c w → Same w w' → E c w')
    (hop : AllDo3 P ops Q D T S Sx C E a0 w0 n 0 ops.toList) :
    (Code.region id ops true).wp P Q a0 w0 := by
  subst hsz
  have hTl : T.length = ops.size := by rw [← hT]; simp
  have gD : ∀ i, i < ops.size → D.getD i [] = depsOf .any ops i := fun i hi => map_range_getD hD hi
  have gT : ∀ i, i < ops.size → T.getD i none = dstOf ops i := fun i hi => map_range_getD hT hi
  have nT : ∀ k, (∀ j, j < ops.size → dstOf ops j ≠ some k) ↔ some k ∉ T := by
    intro k
    rw [← hT, List.mem_map]
    constructor
    · rintro h ⟨j, hj, he⟩
      exact h j (List.mem_range.1 hj) he
    · intro h j hj he
      exact h ⟨j, List.mem_range.2 hj, he⟩
  have hpl : planned .any ops n = true := by
    unfold planned
    unfold plannedD at hp
    rw [List.all_eq_true] at hp ⊢
    intro i hi
    have hi' := List.mem_range.1 hi
    have h1 := hp i (by rw [hTl]; exact hi)
    rw [gD i hi', gT i hi', hTl] at h1
    rw [Bool.and_eq_true] at h1 ⊢
    refine ⟨h1.1, ?_⟩
    have h2 := h1.2
    cases hd : dstOf ops i with
    | none => rfl
    | some d =>
      rw [hd] at h2
      simp only [Bool.and_eq_true, List.all_eq_true] at h2 ⊢
      refine ⟨h2.1, fun j hj => ?_⟩
      have h3 := h2.2 j hj
      rw [gT j (List.mem_range.1 hj)] at h3
      exact h3
  unfold chained at hch
  rw [Bool.and_eq_true, List.all_eq_true, List.all_eq_true] at hch
  obtain ⟨hlast, hchain⟩ := hch
  have hC : ∀ p, p < C.length → C.getD p 0 < ops.size - 1 ∧ (p = 0 ∨ C.getD (p - 1) 0 ∈ D.getD (C.getD p 0) []) ∧ ∀ q, q < C.length → p = q ∨ C.getD p 0 ≠ C.getD q 0 := by
    intro p hp
    have h := hchain p (List.mem_range.2 hp)
    rw [Bool.and_eq_true, Bool.and_eq_true, List.all_eq_true] at h
    refine ⟨by simpa using h.1.1, ?_, fun q hq => ?_⟩
    · have := h.1.2
      simp only [Bool.or_eq_true, beq_iff_eq, List.contains_iff_mem] at this
      exact this
    · have := h.2 q (List.mem_range.2 hq)
      simpa using this
  have depListed : ∀ (listed : Array Bool) (i : Nat) (o : Oper), ops[i]? = some o → (∀ e ∈ o.after, Region.binds .any e → listed.getD e.on false = true) → ∀ j ∈ depsOf .any ops i, listed.getD j false = true := by
    intro listed i o ho hdep j hj
    unfold depsOf at hj
    simp only [ho, Option.map_some, Option.getD_some, List.mem_map, List.mem_filter] at hj
    obtain ⟨e, ⟨he, hb⟩, rfl⟩ := hj
    exact hdep e (by simpa using he) hb
  refine wp_region_any hm ?_
  refine wpAny_inv (fun listed a w => listed.size = ops.size ∧ ((listed.getD (ops.size - 1) false = false ∧ Keeps Sx w0 w ∧ a.defers = a0.defers ∧ a.tmps.size = n ∧ (∀ k, some k ∉ T → a.tmps[k]?.getD undef = a0.tmps[k]?.getD undef) ∧
      (∀ j d, j < ops.size → T.getD j none = some d → listed.getD j false = true → (S.getD j .any).holds Sx w0.heap.size w (a.tmps[d]?.getD undef)) ∧
      ∃ c, c ≤ C.length ∧ (∀ q, q < c → listed.getD (C.getD q 0) false = true) ∧ (∀ q, c ≤ q → q < C.length → listed.getD (C.getD q 0) false = false) ∧ E c w) ∨ ((∀ i, i < ops.size → listed.getD i false = true) ∧ Q .normal a w))) ?_ ?_ ops.size (Array.replicate ops.size false) a0 _ ?_ ?_
  · intro listed a w i ⟨h1, h⟩ hi
    obtain ⟨hl, o, ho, hdep⟩ := mem_ready.1 hi
    have hio : i < ops.size := (Array.getElem?_eq_some_iff.1 ho).1
    have hnl : listed.getD i false = false := by simpa [h1 ▸ hio] using hl
    rcases h with ⟨hL, h2, h3, h4, h5, h6, c, hc, hc1, hc2, hEc⟩ | ⟨hall, _⟩
    case inr => rw [hall i hio] at hnl; simp at hnl
    have hdl := depListed listed i o ho hdep
    have hget := AllDo3.get ops.toList 0 hop i o (by simpa using ho)
    rw [Nat.zero_add] at hget
    have hdo : dstOf ops i = o.dst := by simp [dstOf, ho]
    have hput : ∀ (v : Value) k, o.dst ≠ some k → (a.put o.dst v).tmps[k]?.getD undef = a.tmps[k]?.getD undef := by
      intro v k hk
      unfold Act.put
      cases hd : o.dst with
      | none => rfl
      | some d =>
        have hdk : d ≠ k := fun e => hk (by rw [hd, e])
        simp only [Array.getElem?_setIfInBounds_ne hdk]
    have hdeps : ∀ j ∈ D.getD i [], ∀ d, T.getD j none = some d → (S.getD j .any).holds Sx w0.heap.size w (a.tmps[d]?.getD undef) := by
      intro j hj d hd
      rw [gD i hio] at hj
      have hji := planned_deps hpl hio j hj
      exact h6 j d (by omega) hd (hdl j hj)
    have hset : ∀ j, i ≠ j → (listed.setIfInBounds i true).getD j false = listed.getD j false := by
      intro j hij
      simp only [Array.getD_eq_getD_getElem?, Array.getElem?_setIfInBounds_ne hij]
    have hsetI : (listed.setIfInBounds i true).getD i false = true := by
      simp [h1 ▸ hio]
    refine wpOp_step ho fun K' hK => ?_
    by_cases hiL : i = ops.size - 1
    · have hol := hget.2 (by simp; omega)
      have hall : ∀ j, j < ops.size - 1 → listed.getD j false = true := by
        intro j hj
        have := hlast j (List.mem_range.2 hj)
        rw [List.contains_iff_mem, gD _ (by omega), ← hiL] at this
        exact hdl j this
      have hcl : c = C.length := by
        by_cases hcl : c < C.length
        · have h7 := hc2 c (Nat.le_refl _) hcl
          rw [hall _ (hC c hcl).1] at h7
          simp at h7
        · omega
      have hres := hol a w h2 h3 h4 (fun j d hj hd => h6 j d (by omega) hd (hall j (by omega))) h5 (hcl ▸ hEc)
      have hfin : ∀ a' w', Q .normal a' w' → K' a' w' := by
        intro a' w' hq
        refine hK a' w' ⟨by simpa using h1, .inr ⟨fun j hj => ?_, hq⟩⟩
        by_cases hij : i = j
        · subst hij; exact hsetI
        · rw [hset j hij]; exact hall j (by omega)
      split at hres
      · next hw => rw [if_pos hw]; exact Oper.wp_mono (fun a' w' h => hfin a' w' h) hres
      · next hw => rw [if_neg hw]; exact hfin _ _ hres
    · have hod := hget.1 (by simp; omega)
      have fin : ∀ v w', Keeps Sx w w' → (S.getD i .any).holds Sx w0.heap.size w' v → (∃ c, c ≤ C.length ∧ (∀ q, q < c → (listed.setIfInBounds i true).getD (C.getD q 0) false = true) ∧ (∀ q, c ≤ q → q < C.length → (listed.setIfInBounds i true).getD (C.getD q 0) false = false) ∧ E c w') → K' (a.put o.dst v) w' := by
        intro v w' hs hv hce
        refine hK _ _ ⟨by simpa using h1, .inl ⟨by rw [hset _ hiL]; exact hL, h2.trans hs (fun _ _ e => e), ?_, ?_, fun k hk => ?_, fun j d hj hd hlj => ?_, hce⟩⟩
        · unfold Act.put; cases o.dst <;> exact h3
        · unfold Act.put
          cases o.dst with
          | none => exact h4
          | some d => simpa using h4
        · rw [hput v k (fun e => (nT k).2 hk i hio (by rw [hdo, e]))]
          exact h5 k hk
        · rw [gT j hj] at hd
          by_cases hij : i = j
          · subst hij
            rw [hdo] at hd
            have hdn := (planned_dst hpl hio (by rw [hdo, hd])).1
            have : (a.put o.dst v).tmps[d]?.getD undef = v := by
              unfold Act.put
              rw [hd]
              simp [h4, hdn]
            rw [this]
            exact hv
          · have hne : o.dst ≠ some d := fun e => (planned_dst hpl hio (by rw [hdo, e])).2 j hj hij hd
            rw [hput v d hne]
            rw [hset j hij] at hlj
            exact (h6 j d hj (by rw [gT j hj]; exact hd) hlj).keep hlo hs
      cases hx : C.idxOf? i with
      | none =>
        rw [hx] at hod
        have hne := idx_none hx
        exact hod a w K' h2 hdeps h5 fun v w' hs hv => fin v w' ((Keeps.refl Sx w).trans hs (fun _ _ e => e.elim)) hv
          ⟨c, hc, fun q hq => by rw [hset _ (fun e => hne q (by omega) e.symm)]; exact hc1 q hq, fun q hq hq2 => by rw [hset _ (fun e => hne q hq2 e.symm)]; exact hc2 q hq hq2, hE _ _ _ hEc hs⟩
      | some p =>
        rw [hx] at hod
        obtain ⟨hpl2, hpi⟩ := idx_some hx
        obtain ⟨_, hprev, hnd⟩ := hC p hpl2
        have hcp : c = p := by
          have h8 : c ≤ p := by
            by_cases h8 : p < c
            · have := hc1 p h8
              rw [hpi, hnl] at this; simp at this
            · omega
          have h9 : p ≤ c := by
            by_cases h9 : c < p
            · rcases hprev with h0 | hd
              · omega
              · rw [hpi, gD i hio] at hd
                have h10 := hdl _ hd
                rw [hc2 (p - 1) (by omega) (by omega)] at h10
                simp at h10
            · omega
          omega
        subst hcp
        exact hod a w K' h2 hdeps h5 hEc fun v w' hs hE' hv => fin v w' hs hv
          ⟨c + 1, by omega, fun q hq => by
            by_cases hqc : q = c
            · subst hqc; rw [hpi]; exact hsetI
            · rcases hnd q (by omega) with e | e
              · omega
              · rw [hset _ (fun h => e (by rw [hpi, h]))]; exact hc1 q (by omega),
           fun q hq hq2 => by
            rcases hnd q hq2 with e | e
            · omega
            · rw [hset _ (fun h => e (by rw [hpi, h]))]; exact hc2 q (by omega) hq2, hE'⟩
  · intro listed a w ⟨h1, h⟩ hr
    have hal := all_listed hpl h1 hr
    rcases h with ⟨hL, _⟩ | ⟨_, hq⟩
    · rw [hal (ops.size - 1) (by omega)] at hL; simp at hL
    · exact hq
  · refine ⟨by simp, .inl ⟨by simp only [Array.getD_eq_getD_getElem?, Array.getElem?_replicate]; split <;> rfl, ((Keeps.refl _ _).drew), rfl, hn, fun _ _ => rfl, fun j d hj hd hl => by simp [hj] at hl, 0, Nat.zero_le _, fun q hq => by omega, fun q _ hq => ?_, hE _ _ _ hE0 (Keeps.refl _ _).drew⟩⟩
    have := (hC q hq).1
    simp only [Array.getD_eq_getD_getElem?, Array.getElem?_replicate]
    split <;> rfl
  · simp
/-- An operation whose value and world are known. -/
theorem plan_go {a : Act} {w : World} {K : Act → World → Prop} {o : Oper} (r : Value) (w1 : World) (hr : (execOp a.eval o).run P w = .ok (.value r) w1) (h : K (a.put o.dst r) w1) : Oper.wp P o a w K Q := by
  unfold Oper.wp
  rw [hr]
  exact h
end

end Go.Proofs.Ytoimhniijeafaaa
