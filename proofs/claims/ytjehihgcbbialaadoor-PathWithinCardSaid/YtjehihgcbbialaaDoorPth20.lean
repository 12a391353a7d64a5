/- Below a path, byte by byte. No walk in this text. -/
import Derived.Test.YtjehihgcbbialaaDoorPth10
namespace Go.Proofs.YtjehihgcbbialaaDoor
open Go.RowKit
set_option linter.unusedVariables false

theorem join_app (l r : List (List UInt8)) (h : l ≠ []) (h2 : r ≠ []) : Lib.join (l ++ r) [47] = Lib.join l [47] ++ 47 :: Lib.join r [47] := by
  cases l with
  | nil => exact absurd rfl h
  | cons y t =>
    cases r with
    | nil => exact absurd rfl h2
    | cons x u =>
      rw [List.cons_append, Lib.join_cons, Lib.join_cons, Lib.join_cons, Lib.joinTail, Lib.joinTail, Lib.joinTail, List.map_append, List.flatten_append, List.append_assoc]
      simp
/-- Below, told by the names, is below, told by the bytes. -/
theorem within_bytes {bs cs : List UInt8} {l m : List (List UInt8)} (h : namesOf bs = some l) (h2 : namesOf cs = some m) (hb : bs ≠ [47]) (hne : bs ≠ cs) :
    withinB bs cs = decide (bs.length < cs.length ∧ cs.take bs.length = bs ∧ cs[bs.length]? = some 47) := by
  have e1 : nl bs = l := by unfold nl; rw [h]; rfl
  have e2 : nl cs = m := by unfold nl; rw [h2]; rfl
  unfold withinB
  rw [e1, e2, h, h2]
  simp only [Option.isSome_some, Bool.true_and]
  rw [← Bool.decide_and]
  apply decide_eq_decide.2
  rcases path_of h with ⟨h3, _⟩ | ⟨_, hl0, hlc, hbt, _, _⟩
  · exact absurd h3 hb
  constructor
  · rintro ⟨h3, h4⟩
    have hj1 := path_join h
    have hj2 := path_join h2
    have hr : m.drop l.length ≠ [] := fun e => by
      have : m = l := by rw [← List.take_append_drop l.length m, e, List.append_nil]; exact h4.symm
      rw [this, hj1] at hj2
      exact hne hj2
    have hm : m = l ++ m.drop l.length := by
      have := List.take_append_drop l.length m
      rw [← h4] at this
      exact this.symm
    have hc : cs = bs ++ 47 :: Lib.join (m.drop l.length) [47] := by
      rw [← hj2, ← hj1]
      unfold joinP
      conv => lhs; rw [hm]
      rw [join_app _ _ hl0 hr]; rfl
    rw [hc]
    refine ⟨by simp, by simp, by simp⟩
  · rintro ⟨h3, h4, h5⟩
    have hc : cs = bs ++ 47 :: cs.drop (bs.length + 1) := by
      have h6 : cs[bs.length]'h3 = 47 := by rw [List.getElem?_eq_getElem h3] at h5; exact Option.some.inj h5
      have := List.drop_eq_getElem_cons h3
      rw [h6] at this
      rw [← this]
      conv => rhs; lhs; rw [← h4]
      exact (List.take_append_drop _ _).symm
    rcases path_of h2 with ⟨h7, _⟩ | ⟨_, _, hmc, _, _, _⟩
    · rw [h7] at h3
      rw [hbt] at h3
      simp at h3
    · rw [hc, hbt, List.cons_append, List.tail_cons, cut47_append, ← hlc] at hmc
      rw [hmc]
      simp
end Go.Proofs.YtjehihgcbbialaaDoor
