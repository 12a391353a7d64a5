/- Parts of what reads as bytes; the document's own Number. -/
import Derived.Test.YtafgiljgefeefaaDoorEye4
namespace Go.Proofs.YtafgiljgefeefaaDoor
open Go.RowKit
set_option linter.unusedVariables false

theorem Bytes.of_own' {w : World} {base : Nat} {e : TypeId} {v : Value} {bs : List UInt8} {n : Nat} (h : w.ownsRow base e 1 v n (u8s bs)) (hn : bs.length = n) : Bytes w v bs := by
  subst hn; exact Bytes.of_own h
/-- A part of what reads as bytes, at the address that a slice expression makes. -/
theorem Bytes.cut {w : World} {ao : Option Addr} {cap : Nat} {bs : List UInt8} (h : Bytes w (.slice ao bs.length cap) bs) (lo n c : Nat) (hn : lo + n ≤ bs.length) (hc : bs.length ≤ cap) :
    Bytes w (.slice (if cap = lo then ao else Option.map (fun x => x.add lo) ao) n c) ((bs.drop lo).take n) := by
  have hl : ((bs.drop lo).take n).length = n := by simp; omega
  by_cases e : cap = lo
  · have h0 : n = 0 := by omega
    subst h0
    exact Bytes.nil _ _ _
  · rw [if_neg e]
    rcases h with ⟨a, c', h1, h2⟩ | ⟨c', h1, h2⟩
    · simp only [Value.slice.injEq] at h1
      obtain ⟨rfl, _, _⟩ := h1
      refine .inl ⟨a.add lo, c, by rw [hl]; rfl, fun j u hu => ?_⟩
      have hj : j < n := by
        have := (List.getElem?_eq_some_iff.1 hu).1
        rw [u8s_length, hl] at this; exact this
      have hadd : (a.add lo).add j = a.add (lo + j) := by
        unfold Addr.add
        by_cases h3 : lo = 0
        · subst h3; simp
        · by_cases h4 : j = 0
          · subst h4; simp [h3]
          · have h5 : lo + j ≠ 0 := by omega
            simp [h3, h4, Nat.add_assoc]
      rw [hadd]
      refine h2 (lo + j) u ?_
      rw [← hu]
      simp [u8s, hj, List.getElem?_drop]
    · subst h2
      simp only [List.length_nil] at hn
      have h0 : n = 0 := by omega
      subst h0
      exact Bytes.nil _ _ _

end Go.Proofs.YtafgiljgefeefaaDoor
