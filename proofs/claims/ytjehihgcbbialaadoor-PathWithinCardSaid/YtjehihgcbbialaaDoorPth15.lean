/- The document's own Split: what its loop keeps (pure). T is the path behind its first byte, L the names so far, f where the piece began, p where we are. -/
import Derived.Test.YtjehihgcbbialaaDoorPth12
namespace Go.Proofs.YtjehihgcbbialaaDoor
open Go.RowKit
set_option linter.unusedVariables false

def CutAt (T : List UInt8) (L : List (List UInt8)) (f p : Nat) : Prop :=
  L.all nameB = true ∧ ((p ≤ T.length ∧ f ≤ p ∧ cut47 T = L ++ cut47 (T.drop f) ∧ ∀ q, f ≤ q → q < p → T[q]? ≠ some 47) ∨ (p = T.length + 1 ∧ cut47 T = L))
theorem cutAt_start (T : List UInt8) : CutAt T [] 0 0 :=
  ⟨rfl, .inl ⟨Nat.zero_le _, Nat.le_refl _, rfl, fun q h1 h2 => absurd h2 (Nat.not_lt_zero _)⟩⟩
theorem cutAt_from {T : List UInt8} {L : List (List UInt8)} {f p : Nat} (h : CutAt T L f p) (hp : p ≤ T.length) : f ≤ p ∧ cut47 T = L ++ cut47 (T.drop f) ∧ ∀ q, f ≤ q → q < p → T[q]? ≠ some 47 := by
  rcases h.2 with h | ⟨h, _⟩
  · exact h.2
  · omega
theorem cutAt_on {T : List UInt8} {L : List (List UInt8)} {f p : Nat} (h : CutAt T L f p) (hp : p < T.length) (hb : T[p]? ≠ some 47) : CutAt T L f (p + 1) := by
  obtain ⟨h1, h2, h3⟩ := cutAt_from h (by omega)
  refine ⟨h.1, .inl ⟨by omega, by omega, h2, fun q a b => ?_⟩⟩
  by_cases e : q = p
  · subst e; exact hb
  · exact h3 q a (by omega)
theorem cutAt_piece {T : List UInt8} {L : List (List UInt8)} {f p : Nat} (h : CutAt T L f p) (hp : p ≤ T.length) (hb : p < T.length → T[p]? = some 47) :
    (p < T.length ∧ cut47 T = (L ++ [(T.drop f).take (p - f)]) ++ cut47 (T.drop (p + 1))) ∨ (p = T.length ∧ cut47 T = L ++ [(T.drop f).take (p - f)]) := by
  obtain ⟨h1, h2, h3⟩ := cutAt_from h hp
  by_cases hlt : p < T.length
  · refine .inl ⟨hlt, ?_⟩
    have h4 := cut47_some (p - f) (T.drop f) (by rw [List.getElem?_drop, Nat.add_sub_cancel' h1]; exact hb hlt) (fun k hk => by rw [List.getElem?_drop]; exact h3 (f + k) (by omega) (by omega))
    rw [List.drop_drop, show f + (p - f + 1) = p + 1 by omega] at h4
    rw [h2, h4, List.append_assoc]; rfl
  · obtain rfl : p = T.length := by omega
    refine .inr ⟨rfl, ?_⟩
    have hn : ∀ b ∈ T.drop f, b ≠ 47 := fun b hb e => by
      subst e
      obtain ⟨k, hk, he⟩ := List.getElem_of_mem hb
      rw [List.length_drop] at hk
      refine h3 (f + k) (by omega) (by omega) ?_
      rw [List.getElem_drop] at he
      rw [List.getElem?_eq_getElem (by omega), he]
    rw [h2, cut47_none _ hn, List.take_of_length_le (by rw [List.length_drop]; exact Nat.le_refl _)]
theorem cutAt_name {T : List UInt8} {L : List (List UInt8)} {f p : Nat} (h : CutAt T L f p) (hp : p ≤ T.length) (hb : p < T.length → T[p]? = some 47) (hn : nameB ((T.drop f).take (p - f)) = true) :
    CutAt T (L ++ [(T.drop f).take (p - f)]) (p + 1) (p + 1) := by
  refine ⟨by rw [List.all_append, h.1]; simp [hn], ?_⟩
  rcases cutAt_piece h hp hb with ⟨h1, h2⟩ | ⟨h1, h2⟩
  · exact .inl ⟨by omega, Nat.le_refl _, h2, fun q a b => by omega⟩
  · exact .inr ⟨by omega, h2⟩
theorem cutAt_none {T : List UInt8} {L : List (List UInt8)} {f p : Nat} (h : CutAt T L f p) (hp : p ≤ T.length) (hb : p < T.length → T[p]? = some 47) (hn : nameB ((T.drop f).take (p - f)) = false) :
    (cut47 T).all nameB = false := by
  rcases cutAt_piece h hp hb with ⟨h1, h2⟩ | ⟨h1, h2⟩ <;> rw [h2] <;> simp [hn]
theorem cutAt_end {T : List UInt8} {L : List (List UInt8)} {f : Nat} (h : CutAt T L f (T.length + 1)) : cut47 T = L ∧ L.all nameB = true := by
  rcases h.2 with ⟨h1, _⟩ | ⟨_, h2⟩
  · omega
  · exact ⟨h2, h.1⟩
end Go.Proofs.YtjehihgcbbialaaDoor
