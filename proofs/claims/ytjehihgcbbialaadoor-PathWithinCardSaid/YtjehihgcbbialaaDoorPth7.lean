/- A path with a name behind it. No walk in this text. -/
import Derived.Test.YtjehihgcbbialaaDoorPth5
namespace Go.Proofs.YtjehihgcbbialaaDoor
open Go.RowKit
set_option linter.unusedVariables false

theorem cut47_append : ∀ (a b : List UInt8), cut47 (a ++ 47 :: b) = cut47 a ++ cut47 b
  | [], b => by simp [cut47]
  | x :: r, b => by
    rw [List.cons_append, cut47, cut47, cut47_append r b]
    split
    · rfl
    · obtain ⟨h, t, e⟩ := cut47_cons r
      rw [e]; rfl
theorem cut47_one : ∀ {a x : List UInt8}, cut47 a = [x] → x = a ∧ ∀ b ∈ a, b ≠ 47
  | [], x, h => by simp [cut47] at h; subst h; simp
  | y :: r, x, h => by
    rw [cut47] at h
    split at h
    · obtain ⟨h1, t, e⟩ := cut47_cons r
      rw [e] at h; simp at h
    · rename_i hy
      obtain ⟨h1, t, e⟩ := cut47_cons r
      rw [e] at h
      simp only [List.cons.injEq] at h
      obtain ⟨h2, h3⟩ := h
      subst h3
      obtain ⟨h4, h5⟩ := cut47_one e
      refine ⟨by rw [← h2, h4], fun b hb => ?_⟩
      rcases List.mem_cons.1 hb with rfl | hb
      · exact hy
      · exact h5 b hb
theorem name_no47 {x : List UInt8} (h : nameB x = true) : ∀ b ∈ x, b ≠ 47 := fun b hb e => by
  unfold nameB at h
  simp only [Bool.and_eq_true, decide_eq_true_eq] at h
  have := (List.all_eq_true.1 h.2) b hb
  subst e
  simp [okB] at this
theorem cut47_name {x : List UInt8} (h : nameB x = true) : cut47 x = [x] := cut47_none x (name_no47 h)
theorem join_cut : ∀ (t : List UInt8), Lib.join (cut47 t) [47] = t
  | [] => by simp [cut47, Lib.join_one]
  | b :: r => by
    have ih := join_cut r
    obtain ⟨h, t, e⟩ := cut47_cons r
    rw [cut47]
    split
    · rename_i hb
      rw [e] at ih ⊢
      rw [Lib.join_cons, Lib.joinTail]
      rw [Lib.join_cons] at ih
      simp only [List.map_cons, List.flatten_cons, List.nil_append]
      rw [hb, List.append_assoc]
      show [47] ++ (h ++ Lib.joinTail [47] t) = _
      rw [ih]; rfl
    · rw [e] at ih ⊢
      rw [Lib.join_cons] at ih ⊢
      rw [List.cons_append, ih]
theorem join_snoc (l : List (List UInt8)) (x : List UInt8) (h : l ≠ []) : Lib.join (l ++ [x]) [47] = Lib.join l [47] ++ 47 :: x := by
  cases l with
  | nil => exact absurd rfl h
  | cons y r =>
    rw [List.cons_append, Lib.join_cons, Lib.join_cons, Lib.joinTail, Lib.joinTail, List.map_append, List.flatten_append, List.append_assoc]
    simp
/-- What is known of a text that is a path. -/
theorem path_of {bs : List UInt8} {l : List (List UInt8)} (h : namesOf bs = some l) : (bs = [47] ∧ l = []) ∨ (bs ≠ [47] ∧ l ≠ [] ∧ l = cut47 bs.tail ∧ bs = 47 :: bs.tail ∧ bs.length ≤ 24 ∧ l.all nameB = true) := by
  unfold namesOf at h
  split at h
  · rename_i h1
    simp only [Option.some.injEq] at h
    exact .inl ⟨h1, h.symm⟩
  · rename_i h1
    split at h
    · simp at h
    · rename_i h2
      split at h
      · rename_i h3
        simp only [Option.some.injEq] at h
        have h4 : bs.head? = some 47 := Classical.byContradiction fun e => h2 (.inr e)
        refine .inr ⟨h1, ?_, h.symm, ?_, by omega, by rw [← h]; exact h3⟩
        · rw [← h]; obtain ⟨a, t, e⟩ := cut47_cons bs.tail; rw [e]; simp
        · cases bs with
          | nil => simp at h4
          | cons b r => simp only [List.head?_cons, Option.some.injEq] at h4; rw [h4]; rfl
      · simp at h
theorem path_join {bs : List UInt8} {l : List (List UInt8)} (h : namesOf bs = some l) : joinP l = bs := by
  rcases path_of h with ⟨rfl, rfl⟩ | ⟨_, _, h2, h3, _⟩
  · rfl
  · rw [joinP, h2, join_cut, ← h3]
theorem path_len {bs : List UInt8} {l : List (List UInt8)} (h : namesOf bs = some l) : bs.length ≤ 24 := by
  rcases path_of h with ⟨rfl, rfl⟩ | ⟨_, _, _, _, h5, _⟩
  · simp
  · exact h5
/-- The text of a path with something behind it. -/
def behind (bs x : List UInt8) : List UInt8 := if bs = [47] then 47 :: x else bs ++ 47 :: x
theorem behind_cut {bs x : List UInt8} {l : List (List UInt8)} (h : namesOf bs = some l) : cut47 (behind bs x).tail = l ++ cut47 x ∧ (behind bs x).head? = some 47 := by
  unfold behind
  rcases path_of h with ⟨rfl, rfl⟩ | ⟨h1, _, h2, h3, _⟩
  · simp
  · rw [if_neg h1]
    constructor
    · rw [h3, List.cons_append, List.tail_cons, cut47_append, ← h2]
    · rw [h3]; rfl
theorem behind_long {bs x : List UInt8} {l : List (List UInt8)} (h : namesOf bs = some l) (hx : x ≠ []) : behind bs x ≠ [47] := by
  unfold behind
  split
  · intro e; simp at e; exact hx e
  · rcases path_of h with ⟨rfl, _⟩ | ⟨_, _, _, h3, _⟩
    · rename_i h1; exact absurd rfl h1
    · rw [h3]; intro e; simp at e
theorem behind_name {bs x : List UInt8} {l : List (List UInt8)} (h : namesOf bs = some l) (hx : nameB x = true) (hl : (behind bs x).length ≤ 24) : namesOf (behind bs x) = some (l ++ [x]) := by
  obtain ⟨h1, h2⟩ := behind_cut (x := x) h
  have hne : x ≠ [] := fun e => by subst e; simp [nameB] at hx
  unfold namesOf
  rw [if_neg (behind_long h hne), if_neg (by rintro (h | h); omega; exact h h2), h1, cut47_name hx, if_pos]
  rw [List.all_append]
  have hl : l.all nameB = true := by
    rcases path_of h with ⟨_, rfl⟩ | ⟨_, _, _, _, _, h6⟩
    · rfl
    · exact h6
  simp [hl, hx]
theorem behind_great {bs x : List UInt8} {l : List (List UInt8)} (h : namesOf bs = some l) (hx : nameB x = true) (hl : 24 < (behind bs x).length) : namesOf (behind bs x) = none := by
  have hne : x ≠ [] := fun e => by subst e; simp [nameB] at hx
  unfold namesOf
  rw [if_neg (behind_long h hne), if_pos (.inl hl)]
theorem behind_nothing {bs : List UInt8} {l : List (List UInt8)} (h : namesOf bs = some l) : (namesOf (behind bs [])).isSome = decide (bs = [47]) := by
  by_cases hb : bs = [47]
  · rw [decide_eq_true hb]; unfold behind; rw [if_pos hb]; unfold namesOf; rw [if_pos rfl]; rfl
  · rw [decide_eq_false hb]
    obtain ⟨h1, h2⟩ := behind_cut (x := []) h
    have hl : behind bs [] ≠ [47] := by
      unfold behind; rw [if_neg hb]
      rcases path_of h with ⟨rfl, _⟩ | ⟨_, _, _, h3, _⟩
      · exact absurd rfl hb
      · rw [h3]; intro e; simp at e
    unfold namesOf
    rw [if_neg hl]
    split
    · rfl
    · rw [h1, if_neg]; · rfl
      simp [cut47, nameB]
theorem behind_other {bs x : List UInt8} {l : List (List UInt8)} (h : namesOf bs = some l) (hx : nameB x = false) (hne : x ≠ []) {m : List (List UInt8)} (hm : namesOf (behind bs x) = some m) : l.length + 1 < m.length := by
  obtain ⟨h1, h2⟩ := behind_cut (x := x) h
  rcases path_of hm with ⟨e, _⟩ | ⟨_, _, h3, _, _, h6⟩
  · exact absurd e (behind_long h hne)
  · rw [h1] at h3
    rw [h3, List.length_append]
    obtain ⟨a, t, e⟩ := cut47_cons x
    cases t with
    | nil =>
      exfalso
      obtain ⟨h4, _⟩ := cut47_one e
      rw [h3, e, List.all_append, Bool.and_eq_true] at h6
      simp only [List.all_cons, List.all_nil, Bool.and_true] at h6
      rw [h4, hx] at h6
      simp at h6
    | cons b r => rw [e]; simp
end Go.Proofs.YtjehihgcbbialaaDoor
