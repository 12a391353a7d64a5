/- As Plan4, where each call of the chain hands its value on (an append onto a row that was there): its first operations in whatever order, the others one behind the other. No program is named here. -/
import Derived.Test.YtoimhniijeafaaaPlan4
namespace Go.Proofs.Ytoimhniijeafaaa
open Go.RowKit
set_option linter.unusedVariables false

section
variable {P : Program} {ops : Array Oper} {Q : Exit → Act → World → Prop}

/-- What operation number i has to do; p is its place in the chain. -/
def OpDo5 (P : Program) (ops : Array Oper) (Q : Exit → Act → World → Prop) (D : List (List Nat)) (T : List (Option Tmp)) (S : List Spec3) (Sx : Nat → Prop) (C : List Nat) (E : Nat → Value → World → Prop) (a0 : Act) (w0 : World) (M : Nat) (i : Nat) (o : Oper) : Option Nat → Prop
  | none => ∀ (a : Act) (w : World) (K : Act → World → Prop), Keeps Sx w0 w → (∀ j ∈ D.getD i [], ∀ d, T.getD j none = some d → (S.getD j .any).holds Sx w0.heap.size w (a.tmps[d]?.getD undef)) → (∀ k, some k ∉ T.take M → a.tmps[k]?.getD undef = a0.tmps[k]?.getD undef) →
      (∀ v w', Same w w' → (S.getD i .any).holds Sx w0.heap.size w' v → K (a.put o.dst v) w') → if Region.wanted o (yielded ops a.tmps) = true then Oper.wp P o a w K Q else K (a.put o.dst undef) w
  | some p => ∀ (a : Act) (w : World) (K : Act → World → Prop), Keeps Sx w0 w → (∀ j ∈ D.getD i [], ∀ d, T.getD j none = some d → (S.getD j .any).holds Sx w0.heap.size w (a.tmps[d]?.getD undef)) → (∀ k, some k ∉ T.take M → a.tmps[k]?.getD undef = a0.tmps[k]?.getD undef) → ∀ ev, E p ev w → (∀ q d, p = q + 1 → T.getD (C.getD q 0) none = some d → a.tmps[d]?.getD undef = ev) →
      (∀ v w', Keeps Sx w w' → E (p + 1) v w' → (S.getD i .any).holds Sx w0.heap.size w' v → K (a.put o.dst v) w') → if Region.wanted o (yielded ops a.tmps) = true then Oper.wp P o a w K Q else K (a.put o.dst undef) w
def AllDo5 (P : Program) (ops : Array Oper) (Q : Exit → Act → World → Prop) (D : List (List Nat)) (T : List (Option Tmp)) (S : List Spec3) (Sx : Nat → Prop) (C : List Nat) (E : Nat → Value → World → Prop) (a0 : Act) (w0 : World) (M : Nat) : Nat → Nat → List Oper → Prop
  | _, 0, _ => True
  | _, _ + 1, [] => True
  | i, L + 1, o :: r => OpDo5 P ops Q D T S Sx C E a0 w0 M i o (C.idxOf? i) ∧ AllDo5 P ops Q D T S Sx C E a0 w0 M (i + 1) L r
theorem AllDo5.get {D : List (List Nat)} {T : List (Option Tmp)} {S : List Spec3} {Sx : Nat → Prop} {C : List Nat} {E : Nat → Value → World → Prop} {a0 : Act} {w0 : World} {M : Nat} : ∀ (l : List Oper) (k L : Nat), AllDo5 P ops Q D T S Sx C E a0 w0 M k L l → ∀ i o, l[i]? = some o → i < L →
    OpDo5 P ops Q D T S Sx C E a0 w0 M (k + i) o (C.idxOf? (k + i))
  | [], k, _, _, i, o, h, _ => by simp at h
  | o' :: r, k, 0, _, i, o, _, hi => by omega
  | o' :: r, k, L + 1, h, 0, o, ho, _ => by
    simp at ho; subst ho
    exact h.1
  | o' :: r, k, L + 1, h, i + 1, o, ho, hi => by
    have := AllDo5.get r (k + 1) L h.2 i o (by simpa using ho) (by omega)
    rw [show k + (i + 1) = k + 1 + i from by omega]
    exact this

theorem wp_region_hand (D : List (List Nat)) (T : List (Option Tmp)) (S : List Spec3) (Sx : Nat → Prop) (C : List Nat) (E : Nat → Value → World → Prop) (id : Nat) (a0 : Act) (w0 : World) (n L m : Nat) (hm : P.follows .mixedOrders = true) (hn : a0.tmps.size = n) (hsz : ops.size = m) (hLm : L ≤ m)
    (hD : (List.range m).map (depsOf .any ops) = D) (hT : (List.range m).map (dstOf ops) = T) (hp : plannedD D T n = true) (hch : chained4 D C L m = true) (hlo : ∀ k, Sx k → k < w0.heap.size) (hE0 : E 0 undef w0) (hE : ∀ c ev w w', E c ev w → Same w w' → E c ev w')
    (hop : AllDo5 P ops Q D T S Sx C E a0 w0 L 0 L ops.toList)
    (hend : ∀ (a : Act) (w : World), Keeps Sx w0 w → a.defers = a0.defers → a.tmps.size = n → (∀ j d, j < L → T.getD j none = some d → (S.getD j .any).holds Sx w0.heap.size w (a.tmps[d]?.getD undef)) → (∀ k, some k ∉ T.take L → a.tmps[k]?.getD undef = a0.tmps[k]?.getD undef) → ∀ ev, E C.length ev w → (∀ q d, C.length = q + 1 → T.getD (C.getD q 0) none = some d → a.tmps[d]?.getD undef = ev) → wpList P ops Q (ops.toList.drop L) a w) :
    (Code.region id ops true).wp P Q a0 w0 := by
  subst hsz
  have hTl : T.length = ops.size := by rw [← hT]; simp
  have gD : ∀ i, i < ops.size → D.getD i [] = depsOf .any ops i := fun i hi => map_range_getD hD hi
  have gT : ∀ i, i < ops.size → T.getD i none = dstOf ops i := fun i hi => map_range_getD hT hi
  have nT : ∀ k, (∀ j, j < ops.size → dstOf ops j ≠ some k) ↔ some k ∉ T := by
    intro k
    rw [← hT, List.mem_map]
    constructor
    · rintro h ⟨j, hj, he⟩
      exact h j (List.mem_range.1 hj) he
    · intro h j hj he
      exact h ⟨j, List.mem_range.2 hj, he⟩
  have hpl : planned .any ops n = true := by
    unfold planned
    unfold plannedD at hp
    rw [List.all_eq_true] at hp ⊢
    intro i hi
    have hi' := List.mem_range.1 hi
    have h1 := hp i (by rw [hTl]; exact hi)
    rw [gD i hi', gT i hi', hTl] at h1
    rw [Bool.and_eq_true] at h1 ⊢
    refine ⟨h1.1, ?_⟩
    have h2 := h1.2
    cases hd : dstOf ops i with
    | none => rfl
    | some d =>
      rw [hd] at h2
      simp only [Bool.and_eq_true, List.all_eq_true] at h2 ⊢
      refine ⟨h2.1, fun j hj => ?_⟩
      have h3 := h2.2 j hj
      rw [gT j (List.mem_range.1 hj)] at h3
      exact h3
  unfold chained4 at hch
  rw [Bool.and_eq_true, List.all_eq_true] at hch
  obtain ⟨hforced, hchain⟩ := hch
  have hF : ∀ t, L ≤ t → t < ops.size → ∀ j, j < t → ∃ i, j < i ∧ i ≤ t ∧ j ∈ D.getD i [] := by
    intro t ht htm j hj
    unfold forced at hforced
    rw [List.all_eq_true] at hforced
    have h := hforced t (List.mem_range.2 htm)
    rw [Bool.or_eq_true] at h
    rcases h with h | h
    · simp at h; omega
    · rw [List.all_eq_true] at h
      have h2 := h j (List.mem_range.2 hj)
      rw [List.any_eq_true] at h2
      obtain ⟨i, hi, h3⟩ := h2
      rw [Bool.and_eq_true, List.contains_iff_mem] at h3
      exact ⟨i, by simpa using h3.1, by have := List.mem_range.1 hi; omega, h3.2⟩
  have hC : ∀ p, p < C.length → C.getD p 0 < L ∧ (p = 0 ∨ C.getD (p - 1) 0 ∈ D.getD (C.getD p 0) []) ∧ ∀ q, q < C.length → p = q ∨ C.getD p 0 ≠ C.getD q 0 := by
    intro p hp
    have h := hchain p (List.mem_range.2 hp)
    rw [Bool.and_eq_true, Bool.and_eq_true, List.all_eq_true] at h
    refine ⟨by simpa using h.1.1, ?_, fun q hq => ?_⟩
    · have := h.1.2
      simp only [Bool.or_eq_true, beq_iff_eq, List.contains_iff_mem] at this
      exact this
    · have := h.2 q (List.mem_range.2 hq)
      simpa using this
  have depListed : ∀ (listed : Array Bool) (i : Nat) (o : Oper), ops[i]? = some o → (∀ e ∈ o.after, Region.binds .any e → listed.getD e.on false = true) → ∀ j ∈ depsOf .any ops i, listed.getD j false = true := by
    intro listed i o ho hdep j hj
    unfold depsOf at hj
    simp only [ho, Option.map_some, Option.getD_some, List.mem_map, List.mem_filter] at hj
    obtain ⟨e, ⟨he, hb⟩, rfl⟩ := hj
    exact hdep e (by simpa using he) hb
  -- what is listed is closed under what it waits for; where t is ready, all before it is listed
  have hclosed : ∀ (listed : Array Bool) (t : Nat) (o : Oper), (∀ i, i < ops.size → listed.getD i false = true → ∀ j ∈ depsOf .any ops i, listed.getD j false = true) → L ≤ t → t < ops.size → ops[t]? = some o → (∀ j ∈ depsOf .any ops t, listed.getD j false = true) → ∀ j, j < t → listed.getD j false = true := by
    intro listed t o hcl hLt htm ho hdt
    have key : ∀ n j, j + n = t → 1 ≤ n → listed.getD j false = true := by
      intro n
      induction n using Nat.strongRecOn with
      | _ n ih =>
        intro j hjn h1
        obtain ⟨i, hi1, hi2, hi3⟩ := hF t hLt htm j (by omega)
        rw [gD i (by omega)] at hi3
        by_cases hit : i = t
        · subst hit; exact hdt j hi3
        · exact hcl i (by omega) (ih (t - i) (by omega) i (by omega) (by omega)) j hi3
    intro j hj
    exact key (t - j) j (by omega) (by omega)
  refine wp_region_any hm ?_
  refine wpAny_inv (fun listed a w => listed.size = ops.size ∧ (∀ i, i < ops.size → listed.getD i false = true → ∀ j ∈ depsOf .any ops i, listed.getD j false = true) ∧
      (((∀ i, L ≤ i → i < ops.size → listed.getD i false = false) ∧ Keeps Sx w0 w ∧ a.defers = a0.defers ∧ a.tmps.size = n ∧ (∀ k, some k ∉ T.take L → a.tmps[k]?.getD undef = a0.tmps[k]?.getD undef) ∧
      (∀ j d, j < ops.size → T.getD j none = some d → listed.getD j false = true → (S.getD j .any).holds Sx w0.heap.size w (a.tmps[d]?.getD undef)) ∧
      ∃ c ev, c ≤ C.length ∧ (∀ q, q < c → listed.getD (C.getD q 0) false = true) ∧ (∀ q, c ≤ q → q < C.length → listed.getD (C.getD q 0) false = false) ∧ E c ev w ∧ (∀ q d, c = q + 1 → T.getD (C.getD q 0) none = some d → a.tmps[d]?.getD undef = ev)) ∨
      (∃ t, L ≤ t ∧ t ≤ ops.size ∧ (∀ i, i < t → listed.getD i false = true) ∧ (∀ i, t ≤ i → i < ops.size → listed.getD i false = false) ∧ wpList P ops Q (ops.toList.drop t) a w))) ?_ ?_ ops.size (Array.replicate ops.size false) a0 _ ?_ ?_
  · intro listed a w i ⟨h1, hcl, h⟩ hi
    obtain ⟨hl, o, ho, hdep⟩ := mem_ready.1 hi
    have hio : i < ops.size := (Array.getElem?_eq_some_iff.1 ho).1
    have hnl : listed.getD i false = false := by simpa [h1 ▸ hio] using hl
    have hdl := depListed listed i o ho hdep
    have hdo : dstOf ops i = o.dst := by simp [dstOf, ho]
    have hset : ∀ j, i ≠ j → (listed.setIfInBounds i true).getD j false = listed.getD j false := by
      intro j hij
      simp only [Array.getD_eq_getD_getElem?, Array.getElem?_setIfInBounds_ne hij]
    have hsetI : (listed.setIfInBounds i true).getD i false = true := by
      simp [h1 ▸ hio]
    have hup : ∀ j, listed.getD j false = true → (listed.setIfInBounds i true).getD j false = true := by
      intro j hj
      by_cases hij : i = j
      · subst hij; exact hsetI
      · rw [hset j hij]; exact hj
    have hcl' : ∀ q, q < ops.size → (listed.setIfInBounds i true).getD q false = true → ∀ j ∈ depsOf .any ops q, (listed.setIfInBounds i true).getD j false = true := by
      intro q hq hlq j hj
      by_cases hiq : i = q
      · subst hiq; exact hup j (hdl j hj)
      · rw [hset q hiq] at hlq
        exact hup j (hcl q hq hlq j hj)
    -- the forced end
    have stageB : ∀ t, L ≤ t → t ≤ ops.size → (∀ i, i < t → listed.getD i false = true) → (∀ i, t ≤ i → i < ops.size → listed.getD i false = false) → wpList P ops Q (ops.toList.drop t) a w →
        wpOp P ops Q i (fun a' w' => (listed.setIfInBounds i true).size = ops.size ∧ (∀ q, q < ops.size → (listed.setIfInBounds i true).getD q false = true → ∀ j ∈ depsOf .any ops q, (listed.setIfInBounds i true).getD j false = true) ∧
      (((∀ q, L ≤ q → q < ops.size → (listed.setIfInBounds i true).getD q false = false) ∧ Keeps Sx w0 w' ∧ a'.defers = a0.defers ∧ a'.tmps.size = n ∧ (∀ k, some k ∉ T.take L → a'.tmps[k]?.getD undef = a0.tmps[k]?.getD undef) ∧
      (∀ j d, j < ops.size → T.getD j none = some d → (listed.setIfInBounds i true).getD j false = true → (S.getD j .any).holds Sx w0.heap.size w' (a'.tmps[d]?.getD undef)) ∧
      ∃ c ev, c ≤ C.length ∧ (∀ q, q < c → (listed.setIfInBounds i true).getD (C.getD q 0) false = true) ∧ (∀ q, c ≤ q → q < C.length → (listed.setIfInBounds i true).getD (C.getD q 0) false = false) ∧ E c ev w' ∧ (∀ q d, c = q + 1 → T.getD (C.getD q 0) none = some d → a'.tmps[d]?.getD undef = ev)) ∨
      (∃ t, L ≤ t ∧ t ≤ ops.size ∧ (∀ q, q < t → (listed.setIfInBounds i true).getD q false = true) ∧ (∀ q, t ≤ q → q < ops.size → (listed.setIfInBounds i true).getD q false = false) ∧ wpList P ops Q (ops.toList.drop t) a' w'))) a w := by
      intro t htL htm hlt hge hwp
      have hit : i = t := by
        by_cases hit : i < t
        · rw [hlt i hit] at hnl; simp at hnl
        · by_cases hgt : t < i
          · have := hclosed listed i o hcl (by omega) hio ho hdl t hgt
            rw [hge t (Nat.le_refl _) (by omega)] at this; simp at this
          · omega
      subst hit
      have hdrop : ops.toList.drop i = o :: ops.toList.drop (i + 1) := by
        rw [List.drop_eq_getElem_cons (by simpa using hio)]
        congr 1
        have := ho
        simp only [Array.getElem?_eq_getElem hio, Option.some.injEq] at this
        simpa using this
      rw [hdrop] at hwp
      have hnext : ∀ a' w', wpList P ops Q (ops.toList.drop (i + 1)) a' w' → _ := fun a' w' hq => (⟨by simpa using h1, hcl', .inr ⟨i + 1, by omega, by omega, fun q hq => by
          by_cases hiq : i = q
          · subst hiq; exact hsetI
          · rw [hset q hiq]; exact hlt q (by omega), fun q hq hq2 => by rw [hset q (by omega)]; exact hge q (by omega) hq2, hq⟩⟩ :
        (listed.setIfInBounds i true).size = ops.size ∧ (∀ q, q < ops.size → (listed.setIfInBounds i true).getD q false = true → ∀ j ∈ depsOf .any ops q, (listed.setIfInBounds i true).getD j false = true) ∧
      (((∀ q, L ≤ q → q < ops.size → (listed.setIfInBounds i true).getD q false = false) ∧ Keeps Sx w0 w' ∧ a'.defers = a0.defers ∧ a'.tmps.size = n ∧ (∀ k, some k ∉ T.take L → a'.tmps[k]?.getD undef = a0.tmps[k]?.getD undef) ∧
      (∀ j d, j < ops.size → T.getD j none = some d → (listed.setIfInBounds i true).getD j false = true → (S.getD j .any).holds Sx w0.heap.size w' (a'.tmps[d]?.getD undef)) ∧
      ∃ c ev, c ≤ C.length ∧ (∀ q, q < c → (listed.setIfInBounds i true).getD (C.getD q 0) false = true) ∧ (∀ q, c ≤ q → q < C.length → (listed.setIfInBounds i true).getD (C.getD q 0) false = false) ∧ E c ev w' ∧ (∀ q d, c = q + 1 → T.getD (C.getD q 0) none = some d → a'.tmps[d]?.getD undef = ev)) ∨
      (∃ t, L ≤ t ∧ t ≤ ops.size ∧ (∀ q, q < t → (listed.setIfInBounds i true).getD q false = true) ∧ (∀ q, t ≤ q → q < ops.size → (listed.setIfInBounds i true).getD q false = false) ∧ wpList P ops Q (ops.toList.drop t) a' w')))
      unfold wpList at hwp
      unfold wpOp
      rw [ho]
      show if Region.wanted o (yielded ops a.tmps) = true then _ else _
      split at hwp
      · next hw =>
        rw [if_pos hw]
        rcases hwp with hwp | hwp
        · exact .inl (Oper.wp_mono hnext hwp)
        · exact .inr hwp
      · next hw => rw [if_neg hw]; exact hnext _ _ hwp
    rcases h with ⟨hL, h2, h3, h4, h5, h6, c, ev, hc, hc1, hc2, hEc, hev⟩ | ⟨t, ht1, ht2, ht3, ht4, hwp⟩
    case inr => exact stageB t ht1 ht2 ht3 ht4 hwp
    by_cases hiL : L ≤ i
    · have hall : ∀ j, j < L → listed.getD j false = true := fun j hj => hclosed listed i o hcl hiL hio ho hdl j (by omega)
      have hcl2 : c = C.length := by
        by_cases hcl2 : c < C.length
        · have h7 := hc2 c (Nat.le_refl _) hcl2
          rw [hall _ (hC c hcl2).1] at h7
          simp at h7
        · omega
      exact stageB L (Nat.le_refl _) (by omega) hall hL (hend a w h2 h3 h4 (fun j d hj hd => h6 j d (by omega) hd (hall j hj)) h5 ev (hcl2 ▸ hEc) (hcl2 ▸ hev))
    · have hod := AllDo5.get ops.toList 0 L hop i o (by simpa using ho) (by omega)
      rw [Nat.zero_add] at hod
      have hput : ∀ (v : Value) k, o.dst ≠ some k → (a.put o.dst v).tmps[k]?.getD undef = a.tmps[k]?.getD undef := by
        intro v k hk
        unfold Act.put
        cases hd : o.dst with
        | none => rfl
        | some d =>
          have hdk : d ≠ k := fun e => hk (by rw [hd, e])
          simp only [Array.getElem?_setIfInBounds_ne hdk]
      have hdeps : ∀ j ∈ D.getD i [], ∀ d, T.getD j none = some d → (S.getD j .any).holds Sx w0.heap.size w (a.tmps[d]?.getD undef) := by
        intro j hj d hd
        rw [gD i hio] at hj
        have hji := planned_deps hpl hio j hj
        exact h6 j d (by omega) hd (hdl j hj)
      refine wpOp_step ho fun K' hK => ?_
      have fin : ∀ v w', Keeps Sx w w' → (S.getD i .any).holds Sx w0.heap.size w' v → (∃ c ev, c ≤ C.length ∧ (∀ q, q < c → (listed.setIfInBounds i true).getD (C.getD q 0) false = true) ∧ (∀ q, c ≤ q → q < C.length → (listed.setIfInBounds i true).getD (C.getD q 0) false = false) ∧ E c ev w' ∧ (∀ q d, c = q + 1 → T.getD (C.getD q 0) none = some d → (a.put o.dst v).tmps[d]?.getD undef = ev)) → K' (a.put o.dst v) w' := by
        intro v w' hs hv hce
        refine hK _ _ ⟨by simpa using h1, hcl', .inl ⟨fun q hq hq2 => by rw [hset _ (by omega)]; exact hL q hq hq2, h2.trans hs (fun _ _ e => e), ?_, ?_, fun k hk => ?_, fun j d hj hd hlj => ?_, hce⟩⟩
        · unfold Act.put; cases o.dst <;> exact h3
        · unfold Act.put
          cases o.dst with
          | none => exact h4
          | some d => simpa using h4
        · rw [hput v k (fun e => hk (by
            have h := gT i hio
            rw [hdo, e, List.getD_eq_getElem?_getD] at h
            rw [List.mem_iff_getElem?]
            refine ⟨i, ?_⟩
            rw [List.getElem?_take_of_lt (by omega)]
            cases hq : T[i]? with
            | none => rw [hq] at h; simp at h
            | some z => rw [hq] at h; simp at h; rw [h]))]
          exact h5 k hk
        · rw [gT j hj] at hd
          by_cases hij : i = j
          · subst hij
            rw [hdo] at hd
            have hdn := (planned_dst hpl hio (by rw [hdo, hd])).1
            have : (a.put o.dst v).tmps[d]?.getD undef = v := by
              unfold Act.put
              rw [hd]
              simp [h4, hdn]
            rw [this]
            exact hv
          · have hne : o.dst ≠ some d := fun e => (planned_dst hpl hio (by rw [hdo, e])).2 j hj hij hd
            rw [hput v d hne]
            rw [hset j hij] at hlj
            exact (h6 j d hj (by rw [gT j hj]; exact hd) hlj).keep hlo hs
      cases hx : C.idxOf? i with
      | none =>
        rw [hx] at hod
        have hne := idx_none hx
        exact hod a w K' h2 hdeps h5 fun v w' hs hv => fin v w' ((Keeps.refl Sx w).trans hs (fun _ _ e => e.elim)) hv
          ⟨c, ev, hc, fun q hq => by rw [hset _ (fun e => hne q (by omega) e.symm)]; exact hc1 q hq, fun q hq hq2 => by rw [hset _ (fun e => hne q hq2 e.symm)]; exact hc2 q hq hq2, hE _ _ _ _ hEc hs, fun q d hq hd => by
            have hql : q < C.length := by omega
            have hjl : C.getD q 0 < ops.size := by have := (hC q hql).1; omega
            rw [gT _ hjl] at hd
            rw [hput v d (fun e => (planned_dst hpl hio (by rw [hdo, e])).2 _ hjl (fun e2 => hne q hql e2.symm) hd)]
            exact hev q d hq (by rw [gT _ hjl]; exact hd)⟩
      | some p =>
        rw [hx] at hod
        obtain ⟨hpl2, hpi⟩ := idx_some hx
        obtain ⟨_, hprev, hnd⟩ := hC p hpl2
        have hcp : c = p := by
          have h8 : c ≤ p := by
            by_cases h8 : p < c
            · have := hc1 p h8
              rw [hpi, hnl] at this; simp at this
            · omega
          have h9 : p ≤ c := by
            by_cases h9 : c < p
            · rcases hprev with h0 | hd
              · omega
              · rw [hpi, gD i hio] at hd
                have h10 := hdl _ hd
                rw [hc2 (p - 1) (by omega) (by omega)] at h10
                simp at h10
            · omega
          omega
        subst hcp
        exact hod a w K' h2 hdeps h5 ev hEc hev fun v w' hs hE' hv => fin v w' hs hv
          ⟨c + 1, v, by omega, fun q hq => by
            by_cases hqc : q = c
            · subst hqc; rw [hpi]; exact hsetI
            · rcases hnd q (by omega) with e | e
              · omega
              · rw [hset _ (fun h => e (by rw [hpi, h]))]; exact hc1 q (by omega),
           fun q hq hq2 => by
            rcases hnd q hq2 with e | e
            · omega
            · rw [hset _ (fun h => e (by rw [hpi, h]))]; exact hc2 q (by omega) hq2, hE', fun q d hq hd => by
            have hqc : q = c := by omega
            subst hqc
            rw [hpi, gT i hio, hdo] at hd
            have hdn := (planned_dst hpl hio (by rw [hdo, hd])).1
            unfold Act.put
            rw [hd]
            simp [h4, hdn]⟩
  · intro listed a w ⟨h1, hcl, h⟩ hr
    have hal := all_listed hpl h1 hr
    have hdrop0 : ops.toList.drop ops.size = [] := List.drop_of_length_le (by simp)
    rcases h with ⟨hL, h2, h3, h4, h5, h6, c, ev, hc, hc1, hc2, hEc, hev⟩ | ⟨t, ht1, ht2, ht3, ht4, hwp⟩
    · have hLs : L = ops.size := by
        by_cases hLs : L < ops.size
        · have := hL L (Nat.le_refl _) hLs
          rw [hal L hLs] at this; simp at this
        · omega
      have hcl2 : c = C.length := by
        by_cases hcl2 : c < C.length
        · have h7 := hc2 c (Nat.le_refl _) hcl2
          rw [hal _ (by have := (hC c hcl2).1; omega)] at h7
          simp at h7
        · omega
      have := hend a w h2 h3 h4 (fun j d hj hd => h6 j d (by omega) hd (hal j (by omega))) h5 ev (hcl2 ▸ hEc) (hcl2 ▸ hev)
      rw [hLs, hdrop0] at this
      exact this
    · have hts : t = ops.size := by
        by_cases hts : t < ops.size
        · have := ht4 t (Nat.le_refl _) hts
          rw [hal t hts] at this; simp at this
        · omega
      rw [hts, hdrop0] at hwp
      exact hwp
  · have hrep : ∀ i, (Array.replicate ops.size false).getD i false = false := by
      intro i
      simp only [Array.getD_eq_getD_getElem?, Array.getElem?_replicate]
      split <;> rfl
    refine ⟨by simp, fun i _ hi => by rw [hrep] at hi; simp at hi, .inl ⟨fun i _ _ => hrep i, ((Keeps.refl _ _).drew), rfl, hn, fun _ _ => rfl, fun j d hj hd hl => by rw [hrep] at hl; simp at hl, 0, undef, Nat.zero_le _, fun q hq => by omega, fun q _ hq => hrep _, hE _ _ _ _ hE0 (Keeps.refl _ _).drew, fun q d hq => by omega⟩⟩
  · simp
end

end Go.Proofs.Ytoimhniijeafaaa
