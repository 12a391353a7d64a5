/- Lists that rise by a key, one element put among them. No program is named here. -/
import Derived.Test.YteidjpnmfmcfkaaRw
namespace Go.Proofs.Yteidjpnmfmcfkaa
set_option linter.unusedVariables false
section
variable {α : Type} (key : α → Int) (mg : α → α → α)
def RiseK (vs : List α) : Prop := vs.Pairwise (fun a b => key a < key b)
def insK (v : α) : List α → List α
  | [] => [v]
  | x :: r => if key v < key x then v :: x :: r else if key x = key v then mg x v :: r else x :: insK v r
theorem insK_at (v d : α) : ∀ (vs : List α) (i : Nat), RiseK key vs → i ≤ vs.length → (∀ t (h : t < vs.length), t < i → key vs[t] < key v) → (∀ t (h : t < vs.length), i ≤ t → ¬ key vs[t] < key v) →
    (if decide (i < vs.length) && decide (key (vs.getD i d) = key v) then vs.set i (mg (vs.getD i d) v) else vs.take i ++ v :: vs.drop i) = insK key mg v vs
  | [], i, _, hi, _, _ => by
    have : i = 0 := by simpa using hi
    subst this; simp [insK]
  | x :: r, 0, hr, _, _, h2 => by
    have hx := h2 0 (by simp) (Nat.le_refl _)
    simp only [List.getElem_cons_zero] at hx
    simp only [insK, List.length_cons, Nat.zero_lt_succ, decide_true, Bool.true_and, List.getD_cons_zero, List.set_cons_zero, List.take_zero, List.nil_append, List.drop_zero, decide_eq_true_eq]
    by_cases e : key x = key v
    · rw [if_pos e, if_neg (by omega), if_pos e]
    · rw [if_neg e, if_pos (by omega)]
  | x :: r, i + 1, hr, hi, h1, h2 => by
    have hx := h1 0 (by simp) (by omega)
    simp only [List.getElem_cons_zero] at hx
    have ih := insK_at v d r i (List.Pairwise.of_cons hr) (by simpa using hi) (fun t h ht => by have := h1 (t + 1) (by simpa using h) (by omega); simpa using this) (fun t h ht => by have := h2 (t + 1) (by simpa using h) (by omega); simpa using this)
    have e : insK key mg v (x :: r) = x :: insK key mg v r := by rw [insK, if_neg (by omega), if_neg (by omega)]
    rw [e, ← ih]
    simp only [List.length_cons, Nat.add_lt_add_iff_right, List.getD_cons_succ, List.set_cons_succ, List.take_succ_cons, List.drop_succ_cons, List.cons_append]
    by_cases hc : (decide (i < r.length) && decide (key (r.getD i d) = key v)) = true
    · rw [if_pos hc, if_pos hc]
    · rw [if_neg hc, if_neg hc]
def refStep (v : α) (s : List α × Bool) (x : α) : List α × Bool :=
  if key x = key v then ((if s.2 = false ∧ key v < key x then s.1 ++ [v] else s.1) ++ [mg x v], true)
  else ((if s.2 = false ∧ key v < key x then s.1 ++ [v] else s.1) ++ [x], s.2 || decide (key v < key x))
def refAddK (vs : List α) (v : α) : List α := if (vs.foldl (refStep key mg v) ([], false)).2 then (vs.foldl (refStep key mg v) ([], false)).1 else (vs.foldl (refStep key mg v) ([], false)).1 ++ [v]
theorem refStep_true (v : α) : ∀ (vs acc : List α), (∀ x ∈ vs, key v < key x) → vs.foldl (refStep key mg v) (acc, true) = (acc ++ vs, true)
  | [], acc, _ => by simp
  | x :: r, acc, h => by
    have hx := h x (by simp)
    rw [List.foldl_cons, refStep, if_neg (by omega), if_neg (by simp)]
    simp only [Bool.true_or]
    rw [refStep_true v r _ (fun y hy => h y (by simp [hy])), List.append_assoc]; rfl
theorem refStep_false (v : α) : ∀ (vs acc : List α), RiseK key vs → (let s := vs.foldl (refStep key mg v) (acc, false); (if s.2 then s.1 else s.1 ++ [v]) = acc ++ insK key mg v vs)
  | [], acc, _ => by simp [insK]
  | x :: r, acc, hr => by
    have ht := List.pairwise_cons.1 hr
    rw [List.foldl_cons, insK]
    by_cases h1 : key v < key x
    · have e : refStep key mg v (acc, false) x = (acc ++ [v] ++ [x], true) := by
        rw [refStep, if_neg (by omega), if_pos ⟨rfl, h1⟩]; simp [h1]
      rw [e, refStep_true key mg v r _ (fun y hy => by have := ht.1 y hy; omega), if_pos h1]
      simp
    · by_cases h2 : key x = key v
      · have e : refStep key mg v (acc, false) x = (acc ++ [mg x v], true) := by
          rw [refStep, if_pos h2, if_neg (fun h => h1 h.2)]
        rw [e, refStep_true key mg v r _ (fun y hy => by have := ht.1 y hy; omega), if_neg h1, if_pos h2]
        simp
      · have e : refStep key mg v (acc, false) x = (acc ++ [x], false) := by
          rw [refStep, if_neg h2, if_neg (fun h => h1 h.2)]; simp [h1]
        rw [e, if_neg h1, if_neg h2]
        have ih := refStep_false v r (acc ++ [x]) ht.2
        exact ih.trans (by simp)
theorem refAddK_ins (vs : List α) (v : α) (h : RiseK key vs) : refAddK key mg vs v = insK key mg v vs := by
  have := refStep_false key mg v vs [] h
  simpa [refAddK] using this
theorem insK_mem (v : α) : ∀ (vs : List α) (y : α), RiseK key vs → y ∈ insK key mg v vs → y = v ∨ (y ∈ vs ∧ key y ≠ key v) ∨ ∃ x ∈ vs, key x = key v ∧ y = mg x v
  | [], y, _, h => by simp [insK] at h; exact .inl h
  | x :: r, y, hr, h => by
    have ht := List.pairwise_cons.1 hr
    rw [insK] at h
    split at h
    · rename_i h1
      rcases List.mem_cons.1 h with rfl | h
      · exact .inl rfl
      · refine .inr (.inl ⟨h, ?_⟩)
        rcases List.mem_cons.1 h with rfl | h
        · omega
        · have := ht.1 y h; omega
    · split at h
      · rename_i h1 h2
        rcases List.mem_cons.1 h with rfl | h
        · exact .inr (.inr ⟨x, by simp, h2, rfl⟩)
        · exact .inr (.inl ⟨by simp [h], by have := ht.1 y h; omega⟩)
      · rename_i h1 h2
        rcases List.mem_cons.1 h with rfl | h
        · exact .inr (.inl ⟨by simp, h2⟩)
        · rcases insK_mem v r y ht.2 h with h | ⟨h, h3⟩ | ⟨z, h, h3, h4⟩
          · exact .inl h
          · exact .inr (.inl ⟨by simp [h], h3⟩)
          · exact .inr (.inr ⟨z, by simp [h], h3, h4⟩)
/-- What was there with another key is there; so is one with v's key. -/
theorem insK_old (v : α) : ∀ (vs : List α) (y : α), y ∈ vs → key y ≠ key v → y ∈ insK key mg v vs
  | x :: r, y, h, hk => by
    rw [insK]
    split
    · exact List.mem_cons_of_mem _ h
    · split
      · rename_i h1 h2
        rcases List.mem_cons.1 h with rfl | h
        · exact absurd h2 hk
        · exact List.mem_cons_of_mem _ h
      · rcases List.mem_cons.1 h with rfl | h
        · simp
        · exact List.mem_cons_of_mem _ (insK_old v r y h hk)
theorem insK_has (hm : ∀ x v, key x = key v → key (mg x v) = key v) (v : α) : ∀ (vs : List α), ∃ y ∈ insK key mg v vs, key y = key v
  | [] => ⟨v, by simp [insK], rfl⟩
  | x :: r => by
    rw [insK]
    split
    · exact ⟨v, by simp, rfl⟩
    · split
      · rename_i h1 h2
        exact ⟨_, by simp, hm x v h2⟩
      · obtain ⟨y, h1, h2⟩ := insK_has hm v r
        exact ⟨y, by simp [h1], h2⟩
theorem insK_rise (hm : ∀ x v, key x = key v → key (mg x v) = key v) (v : α) : ∀ (vs : List α), RiseK key vs → RiseK key (insK key mg v vs)
  | [], _ => by simp [insK, RiseK]
  | x :: r, hr => by
    have ht := List.pairwise_cons.1 hr
    rw [insK]
    split
    · rename_i h1
      refine List.pairwise_cons.2 ⟨fun y hy => ?_, hr⟩
      rcases List.mem_cons.1 hy with rfl | h
      · exact h1
      · have := ht.1 y h; omega
    · split
      · rename_i h1 h2
        exact List.pairwise_cons.2 ⟨fun y hy => by have := ht.1 y hy; rw [hm x v h2]; omega, ht.2⟩
      · rename_i h1 h2
        refine List.pairwise_cons.2 ⟨fun y hy => ?_, insK_rise hm v r ht.2⟩
        rcases insK_mem key mg v r y ht.2 hy with rfl | ⟨h, _⟩ | ⟨z, h, h3, rfl⟩
        · omega
        · exact ht.1 y h
        · rw [hm z v h3]; omega
theorem insK_len (v : α) : ∀ (vs : List α), (insK key mg v vs).length = vs.length ∨ (insK key mg v vs).length = vs.length + 1
  | [] => by simp [insK]
  | x :: r => by
    rw [insK]
    split
    · simp
    · split
      · simp
      · have := insK_len v r
        simp only [List.length_cons]; omega
theorem rise_same {vs : List α} (h : RiseK key vs) {x y : α} (hx : x ∈ vs) (hy : y ∈ vs) (e : key x = key y) : x = y := by
  induction vs with
  | nil => simp at hx
  | cons a r ih =>
    have ht := List.pairwise_cons.1 h
    rcases List.mem_cons.1 hx with ex | hx' <;> rcases List.mem_cons.1 hy with ey | hy'
    · rw [ex, ey]
    · have := ht.1 y hy'; rw [← ex] at this; omega
    · have := ht.1 x hx'; rw [← ey] at this; omega
    · exact ih ht.2 hx' hy'
theorem rise_count {vs : List α} (h : RiseK key vs) (k : Int) : vs.countP (fun x => decide (key x = k)) ≤ 1 := by
  induction vs with
  | nil => simp
  | cons a r ih =>
    have ht := List.pairwise_cons.1 h
    rw [List.countP_cons]
    by_cases e : key a = k
    · have : r.countP (fun x => decide (key x = k)) = 0 := List.countP_eq_zero.2 fun x hx => by have := ht.1 x hx; simp; omega
      rw [this]; simp [e]
    · have := ih ht.2; simp [e]; omega
theorem rise_getElem {vs : List α} (h : RiseK key vs) (a b : Nat) (hb : b < vs.length) (hab : a < b) : key (vs[a]'(by omega)) < key vs[b] :=
  List.pairwise_iff_getElem.1 h a b (by omega) hb hab
/-- The search by halves over a list that rises. -/
theorem insK_search (v d : α) (vs : List α) (i : Nat) (f : Nat → Int) (hf : ∀ t (h : t < vs.length), (f t < 0 ↔ key vs[t] < key v)) (hi : bsAt f vs.length 0 vs.length = i) (hr : RiseK key vs) :
    (if decide (i < vs.length) && decide (key (vs.getD i d) = key v) then vs.set i (mg (vs.getD i d) v) else vs.take i ++ v :: vs.drop i) = insK key mg v vs := by
  obtain ⟨s1, s2⟩ := bsAt_spec f vs.length 0 vs.length vs.length (Nat.zero_le _) (Nat.le_refl _) (by omega) (fun a b hab hb h => by
    rw [hf b hb] at h
    rw [hf a (by omega)]
    rcases Nat.lt_or_eq_of_le hab with hlt | rfl
    · have := rise_getElem key hr a b hb hlt; omega
    · exact h) (fun t ht => by omega) (fun t h1 h2 => by omega)
  rw [hi] at s1 s2
  have hle : i ≤ vs.length := by rw [← hi]; exact bsAt_le f _ _ _ (Nat.zero_le _)
  exact insK_at key mg v d vs i hr hle (fun t h ht => (hf t h).1 (s1 t ht)) (fun t h ht hlt => s2 t ht h ((hf t h).2 hlt))
end
end Go.Proofs.Yteidjpnmfmcfkaa
