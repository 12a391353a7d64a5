/- PathUp: pure facts. -/
import Derived.Test.YtjehihgcbbialaaDoorPth7
namespace Go.Proofs.YtjehihgcbbialaaDoor
open Go.RowKit
set_option linter.unusedVariables false

theorem cut47_join : ∀ (x : List UInt8) (r : List (List UInt8)), (∀ y ∈ x :: r, ∀ b ∈ y, b ≠ 47) → cut47 (Lib.join (x :: r) [47]) = x :: r
  | x, [], h => by rw [Lib.join_one]; exact cut47_none x (h x (by simp))
  | x, y :: r, h => by
    have e : Lib.join (x :: y :: r) [47] = x ++ 47 :: Lib.join (y :: r) [47] := by
      rw [Lib.join_cons, Lib.join_cons, Lib.joinTail, Lib.joinTail]
      simp
    rw [e, cut47_append, cut47_none x (h x (by simp)), cut47_join y r (fun z hz => h z (by simp at hz ⊢; exact .inr hz))]
    rfl
theorem names_join {l : List (List UInt8)} (h : ∀ x ∈ l, nameB x = true) (hl : (joinP l).length ≤ 24) : namesOf (joinP l) = some l := by
  cases l with
  | nil => unfold namesOf; exact if_pos rfl
  | cons x r =>
    have hx := nameB_len (h x (by simp))
    have hc : cut47 (joinP (x :: r)).tail = x :: r := cut47_join x r (fun y hy => name_no47 (h y hy))
    have hj : joinP (x :: r) ≠ [47] := fun e => by
      rw [joinP, Lib.join_cons] at e
      simp only [List.cons.injEq, true_and, List.append_eq_nil_iff] at e
      rw [e.1] at hx; simp at hx
    unfold namesOf
    rw [if_neg hj, if_neg (by rintro (h | h); omega; exact h rfl), hc, if_pos (List.all_eq_true.2 h)]
theorem join_take_len (l : List (List UInt8)) (q : Nat) : (Lib.join (l.take q) [47]).length ≤ (Lib.join l [47]).length := by
  cases l with
  | nil => simp
  | cons x r =>
    cases q with
    | zero => simp [Lib.join_nil]
    | succ q =>
      rw [List.take_succ_cons, Lib.join_cons, Lib.join_cons, List.length_append, List.length_append, Lib.joinTail, Lib.joinTail]
      have : ((r.take q).map (([47] : List UInt8) ++ ·)).flatten.length ≤ (r.map (([47] : List UInt8) ++ ·)).flatten.length := by
        have h2 : (r.map (([47] : List UInt8) ++ ·)).flatten = ((r.take q).map (([47] : List UInt8) ++ ·)).flatten ++ ((r.drop q).map (([47] : List UInt8) ++ ·)).flatten := by
          rw [← List.flatten_append, ← List.map_append, List.take_append_drop]
        rw [h2, List.length_append]; omega
      omega
/-- One of those above a path. -/
theorem ups_names {bs : List UInt8} {l : List (List UInt8)} (h : namesOf bs = some l) (q : Nat) : namesOf (joinP (l.take q)) = some (l.take q) := by
  refine names_join (fun x hx => ?_) ?_
  · have : nl bs = l := by unfold nl; rw [h]; rfl
    exact nl_name bs x (by rw [this]; exact List.mem_of_mem_take hx)
  · have h1 := path_len h
    have h2 := path_join h
    have h3 := join_take_len l q
    rw [← h2] at h1
    simp only [joinP, List.length_cons] at h1 ⊢
    omega
theorem ups_within {bs : List UInt8} {l : List (List UInt8)} (h : namesOf bs = some l) (q : Nat) (hq : q < l.length) : withinB (joinP (l.take q)) bs = true ∧ withinB bs (joinP (l.take q)) = false := by
  have h1 := ups_names h q
  have e1 : nl bs = l := by unfold nl; rw [h]; rfl
  have e2 : nl (joinP (l.take q)) = l.take q := by unfold nl; rw [h1]; rfl
  have hl : (l.take q).length = q := by rw [List.length_take]; omega
  unfold withinB
  rw [e1, e2, h, h1, hl]
  refine ⟨?_, ?_⟩
  · simp; omega
  · rw [decide_eq_false (p := l.length ≤ q) (by omega)]; rfl
theorem up_again {bs : List UInt8} {l : List (List UInt8)} (h : namesOf bs = some l) (hb : bs ≠ [47]) : l ≠ [] ∧ parentB bs = joinP l.dropLast ∧ baseB bs = l.getLastD [] ∧ behind (joinP l.dropLast) (l.getLastD []) = bs ∧ nameB (l.getLastD []) = true := by
  have e1 : nl bs = l := by unfold nl; rw [h]; rfl
  have hne : l ≠ [] := by
    rcases path_of h with ⟨h1, _⟩ | ⟨_, h2, _⟩
    · exact absurd h1 hb
    · exact h2
  refine ⟨hne, by unfold parentB; rw [e1, if_neg hne], by unfold baseB; rw [e1], ?_, ?_⟩
  · have hl : l = l.dropLast ++ [l.getLastD []] := by
      rw [List.getLastD_eq_getLast?, List.getLast?_eq_some_getLast hne]; exact (List.dropLast_concat_getLast hne).symm
    have hj := path_join h
    unfold behind
    by_cases hd : l.dropLast = []
    · rw [hd] at hl ⊢
      rw [if_pos (show joinP [] = [47] from rfl), ← hj]
      generalize l.getLastD [] = z at hl ⊢
      rw [hl]; simp [joinP, Lib.join_one]
    · have hx : joinP l.dropLast ≠ [47] := fun e => by
        have h2 := ups_names h (l.length - 1)
        rw [← List.dropLast_eq_take, e] at h2
        unfold namesOf at h2
        rw [if_pos rfl] at h2
        exact hd (Option.some.inj h2).symm
      rw [if_neg hx, ← hj]
      generalize l.getLastD [] = z at hl ⊢
      generalize l.dropLast = d at hl hd ⊢
      rw [hl, joinP, joinP, join_snoc d z hd, List.cons_append]
  · refine nl_name bs _ ?_
    rw [e1, List.getLastD_eq_getLast?, List.getLast?_eq_some_getLast hne]
    exact List.getLast_mem hne
theorem behind_root {l : List (List UInt8)} (h : l ≠ []) (hn : ∀ x ∈ l, nameB x = true) : joinP l ≠ [47] := fun e => by
  cases l with
  | nil => exact h rfl
  | cons x r =>
    have hx := nameB_len (hn x (by simp))
    rw [joinP, Lib.join_cons] at e
    simp only [List.cons.injEq, true_and, List.append_eq_nil_iff] at e
    rw [e.1] at hx; simp at hx
end Go.Proofs.YtjehihgcbbialaaDoor
