/- The document's own Flush. -/
import Derived.Test.YtoimhniijeafaaaDk24
namespace Go.Proofs.Ytoimhniijeafaaa
open Go.RowKit
set_option linter.unusedVariables false

/-- What the document's disk holds when so many of its open writes have come in. -/
def came (L : List (Value × List UInt8)) (O : List (Nat × (Value × List UInt8))) : List (Value × List UInt8) := O.foldl (fun L o => L.set o.1 o.2) L
theorem came_len (O : List (Nat × (Value × List UInt8))) : ∀ L, (came L O).length = L.length := by
  induction O with
  | nil => intro L; rfl
  | cons o r ih => intro L; show (came (L.set o.1 o.2) r).length = _; rw [ih, List.length_set]
theorem came_snoc (L : List (Value × List UInt8)) (O : List (Nat × (Value × List UInt8))) (j : Nat) (h : j < O.length) : came L (O.take (j + 1)) = (came L (O.take j)).set O[j].1 O[j].2 := by
  unfold came
  rw [List.take_succ_eq_append_getElem h, List.foldl_append]
  rfl
theorem came_snd : ∀ (O : List (Nat × (Value × List UInt8))) (L : List (Value × List UInt8)), (came L O).map Prod.snd = applied (L.map Prod.snd) (O.map fun o => (o.1, o.2.2))
  | [], L => rfl
  | o :: r, L => by
    show (came (L.set o.1 o.2) r).map Prod.snd = _
    rw [came_snd r, List.map_set]
    rfl
theorem came_from : ∀ (O : List (Nat × (Value × List UInt8))) (L : List (Value × List UInt8)), ∀ p ∈ came L O, p ∈ L ∨ ∃ o ∈ O, o.2 = p
  | [], L, p, hp => .inl hp
  | o :: r, L, p, hp => by
    rcases came_from r (L.set o.1 o.2) p hp with h | ⟨q, hq, e⟩
    · rcases List.mem_or_eq_of_mem_set h with h | h
      · exact .inl h
      · exact .inr ⟨o, List.mem_cons_self .., h.symm⟩
    · exact .inr ⟨q, List.mem_cons_of_mem _ hq, e⟩
/-- A row is stored among what lasts. -/
theorem RefAt.put {w : World} {D g c : Nat} {ov : Value} {L : List (Value × List UInt8)} {O : List (Nat × (Value × List UInt8))} {left : Int} {down : Bool} {N : Nat} (hN : L.length = N) (h : RefAt w D (.slice (some ⟨g, 0, none⟩) N c) ov L O left down) (o : Nat × (Value × List UInt8)) (ho : o ∈ O) :
    RefAt (w.setCell ⟨g, o.1, none⟩ o.2.1) D (.slice (some ⟨g, 0, none⟩) N c) ov (L.set o.1 o.2) O left down ∧ Keeps (fun k => k = g) w (w.setCell ⟨g, o.1, none⟩ o.2.1) := by
  subst hN
  have hk : Keeps (fun k => k = g) w (w.setCell ⟨g, o.1, none⟩ o.2.1) := (Keeps.refl _ _).setCell _ _ (.inr rfl)
  have hgD : g ≠ D := fun e => h.nl (by rw [e]; rfl)
  refine ⟨⟨h.obj.keep hk (fun e => hgD e.symm), ?_, h.opn.keep hk (fun j e e2 => h.nx g rfl (by rw [e, e2])), fun p hp => ?_, fun q hq => ⟨(h.rowO q hq).1.keep hk (fun j e e2 => (h.sepO q hq j e).2.1 (by rw [e2]; rfl)), by rw [List.length_set]; exact (h.rowO q hq).2⟩, h.nl, h.no, h.nx, fun p hp => ?_, h.sepO, by rw [List.length_set]; exact h.few⟩, hk⟩
  · have := own_set (u := o.2.1) h.las (h.rowO o ho).2
    rw [List.length_set, List.map_set]
    exact this
  · rcases List.mem_or_eq_of_mem_set hp with hp | rfl
    · exact (h.rowL p hp).keep hk (fun j e e2 => (h.sepL p hp j e).2.1 (by rw [e2]; rfl))
    · exact (h.rowO o ho).1.keep hk (fun j e e2 => (h.sepO o ho j e).2.1 (by rw [e2]; rfl))
  · rcases List.mem_or_eq_of_mem_set hp with hp | rfl
    · exact h.sepL p hp
    · exact h.sepO o ho
end Go.Proofs.Ytoimhniijeafaaa
