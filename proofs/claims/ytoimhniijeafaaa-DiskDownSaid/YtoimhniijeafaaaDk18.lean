/- A disk whose power ends behind n calls. -/
import Derived.Test.YtoimhniijeafaaaDk16
namespace Go.Proofs.Ytoimhniijeafaaa
open Go.RowKit
set_option linter.unusedVariables false

def DnI (n dn : Nat) (s : DSt) : Prop := s.lim = true ∧ s.L.length = 4 ∧ ((dn ≤ n ∧ s.down = false ∧ s.left = (n : Int) - dn) ∨ (dn = n + 1 ∧ s.down = true))
def nextDn (n dn : Nat) : Nat := if dn ≤ n then dn + 1 else dn
def dnCode (n dn : Nat) : Int := if dn < n then 0 else 3
theorem dn_spent {n dn : Nat} {s : DSt} (h : DnI n dn s) (hd : s.down = false) : DnI n (nextDn n dn) s.spent ∧ (s.power = decide (dn < n)) := by
  obtain ⟨h1, h2, h3⟩ := h
  obtain ⟨L, O, lim, left, down⟩ := s
  simp only at h1 h2 h3 hd
  subst h1; subst hd
  rcases h3 with ⟨h3, _, h4⟩ | ⟨_, h4⟩
  · by_cases hl : left = 0
    · have : dn = n := by omega
      subst this
      refine ⟨?_, ?_⟩
      · unfold DSt.spent nextDn DnI
        simp [hl, h2]
      · unfold DSt.power; simp [hl]
    · refine ⟨?_, ?_⟩
      · unfold DSt.spent nextDn DnI
        simp [hl, h2, h3]
        omega
      · unfold DSt.power
        have hlt : dn < n := by omega
        simp [hl, hlt]
  · simp at h4
theorem dn_write {n dn : Nat} {s : DSt} {p : Nat} (h : DnI n dn s) (hp : p < 4) (B : List UInt8) : s.wcode (p : Int) = dnCode n dn ∧ DnI n (nextDn n dn) (s.wrote (p : Int) B) ∧ (s.wrote (p : Int) B).O.length ≤ s.O.length + 1 := by
  cases hd : s.down with
  | true =>
    have h3 := h.2.2
    rw [hd] at h3
    have h4 : dn = n + 1 := by rcases h3 with ⟨_, e, _⟩ | ⟨e, _⟩; simp at e; exact e
    refine ⟨?_, ?_, ?_⟩
    · unfold DSt.wcode dnCode; rw [if_pos hd, if_neg (by omega)]
    · unfold DSt.wrote nextDn; rw [if_pos hd, if_neg (by omega)]; exact h
    · unfold DSt.wrote; rw [if_pos hd]; omega
  | false =>
    have hin : (0 : Int) ≤ (p : Int) ∧ (p : Int) < (s.L.length : Int) := by have := h.2.1; omega
    have h5 := dn_spent (s := { s with O := s.O ++ [((p : Int).toNat, B)] }) h hd
    have h6 := (dn_spent h hd).2
    refine ⟨?_, ?_, ?_⟩
    · unfold DSt.wcode dnCode; rw [if_neg (by simp [hd]), if_pos hin, h6]; simp
    · unfold DSt.wrote; rw [if_neg (by simp [hd]), if_pos hin]; exact h5.1
    · unfold DSt.wrote; rw [if_neg (by simp [hd]), if_pos hin]
      unfold DSt.spent
      split
      · simp
      · split <;> simp
theorem dn_flush {n dn : Nat} {s : DSt} (h : DnI n dn s) : s.fcode = dnCode n dn ∧ DnI n (nextDn n dn) s.flushed ∧ s.flushed.O.length ≤ s.O.length + 1 := by
  cases hd : s.down with
  | true =>
    have h3 := h.2.2
    rw [hd] at h3
    have h4 : dn = n + 1 := by rcases h3 with ⟨_, e, _⟩ | ⟨e, _⟩; simp at e; exact e
    refine ⟨?_, ?_, ?_⟩
    · unfold DSt.fcode dnCode; rw [if_pos hd, if_neg (by omega)]
    · unfold DSt.flushed nextDn; rw [if_pos hd, if_neg (by omega)]; exact h
    · unfold DSt.flushed; rw [if_pos hd]; omega
  | false =>
    have h5 := dn_spent h hd
    have hO : s.spent.O = s.O := by unfold DSt.spent; split <;> (try split) <;> rfl
    have h7 : DnI n (nextDn n dn) { s.spent with L := applied s.L s.O, O := [] } := ⟨h5.1.1, by show (applied s.L s.O).length = 4; rw [applied_len]; exact h.2.1, h5.1.2.2⟩
    refine ⟨?_, ?_, ?_⟩
    · unfold DSt.fcode dnCode; rw [if_neg (by simp [hd]), h5.2]; simp
    · unfold DSt.flushed; rw [if_neg (by simp [hd])]; split
      · exact h7
      · exact h5.1
    · unfold DSt.flushed; rw [if_neg (by simp [hd])]; split
      · simp
      · rw [hO]; omega
theorem dn_read {n dn : Nat} {s : DSt} (h : DnI n dn s) : s.rcode 0 = if n < dn then 3 else 0 := by
  obtain ⟨h1, h2, h3⟩ := h
  unfold DSt.rcode
  rcases h3 with ⟨h3, hd, _⟩ | ⟨h3, hd⟩
  · rw [if_neg (by simp [hd]), if_pos (by omega), if_neg (by omega)]
  · rw [if_pos hd, if_pos (by omega)]
end Go.Proofs.Ytoimhniijeafaaa
