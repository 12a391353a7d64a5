/- Slices of pairs of slices of bytes. No program is named here. -/
import Derived.Test.YtfnbmigldciblaaStrs
namespace Go.Proofs.Ytfnbmigldciblaa
open Go.RowKit
set_option linter.unusedVariables false

/-- A pair: its two slices, and what they read as. -/
structure PairX where
  kv : Value
  ks : List UInt8
  vv : Value
  vs : List UInt8
/-- The pair lies there. -/
structure PairAt (w : World) (g off : Nat) (p : PairX) : Prop where
  c0 : w.cell? ⟨g, off, none⟩ = some p.kv
  c1 : w.cell? ⟨g, off + 1, none⟩ = some p.vv
  bk : Bytes w p.kv p.ks
  bv : Bytes w p.vv p.vs
  sk : ∀ a n c, p.kv = .slice (some a) n c → p.ks ≠ [] → a.spot = none
  sv : ∀ a n c, p.vv = .slice (some a) n c → p.vs ≠ [] → a.spot = none
/-- A slice of pairs. -/
def Pairs (w : World) (ao : Option Addr) (ps : List PairX) : Prop := ps = [] ∨ ∃ g off, ao = some ⟨g, off, none⟩ ∧ ∀ j (h : j < ps.length), PairAt w g (off + j * 2) ps[j]
theorem PairAt.same {w w' : World} {g off : Nat} {p : PairX} (h : PairAt w g off p) (k : Same w w') : PairAt w' g off p := by
  have hb := World.block_lt_of_cell? w _ h.c0
  have hc : ∀ i v, w.cell? ⟨g, i, none⟩ = some v → w'.cell? ⟨g, i, none⟩ = some v := fun i v e => (World.cell?_of_block (w := w) (a := ⟨g, i, none⟩) (k.block g hb (fun e => e))).trans e
  exact ⟨hc _ _ h.c0, hc _ _ h.c1, h.bk.same k, h.bv.same k, h.sk, h.sv⟩
theorem Pairs.same {w w' : World} {ao : Option Addr} {ps : List PairX} (h : Pairs w ao ps) (k : Same w w') : Pairs w' ao ps := by
  rcases h with h | ⟨g, off, h1, h2⟩
  · exact .inl h
  · exact .inr ⟨g, off, h1, fun j hj => (h2 j hj).same k⟩
/-- The j-th pair, its slices written out. -/
theorem Pairs.at {w : World} {ao : Option Addr} {ps : List PairX} (h : Pairs w ao ps) {j : Nat} (hj : j < ps.length) :
    ∃ g off ko kc vo vc, ao = some ⟨g, off, none⟩ ∧ ps[j].kv = .slice ko ps[j].ks.length kc ∧ ps[j].vv = .slice vo ps[j].vs.length vc ∧ w.cell? ⟨g, off + j * 2, none⟩ = some (.slice ko ps[j].ks.length kc) ∧ w.cell? ⟨g, off + j * 2 + 1, none⟩ = some (.slice vo ps[j].vs.length vc) ∧
      Bytes w (.slice ko ps[j].ks.length kc) ps[j].ks ∧ Bytes w (.slice vo ps[j].vs.length vc) ps[j].vs := by
  rcases h with h | ⟨g, off, h1, h2⟩
  · subst h; simp at hj
  · have hp := h2 j hj
    obtain ⟨ko, kc, hk⟩ := hp.bk.form
    obtain ⟨vo, vc, hv⟩ := hp.bv.form
    refine ⟨g, off, ko, kc, vo, vc, h1, hk, hv, ?_, ?_, ?_, ?_⟩
    · rw [← hk]; exact hp.c0
    · rw [← hv]; exact hp.c1
    · rw [← hk]; exact hp.bk
    · rw [← hv]; exact hp.bv
/-- A part of pairs, at the address that a slice expression makes. -/
theorem Pairs.cut {w : World} {ao : Option Addr} {ps : List PairX} (h : Pairs w ao ps) (cap lo n : Nat) (hn : lo + n ≤ ps.length) (hc : ps.length ≤ cap) :
    Pairs w (if cap = lo then ao else Option.map (fun x => x.add (lo * 2)) ao) ((ps.drop lo).take n) := by
  have hl : ((ps.drop lo).take n).length = n := by simp; omega
  by_cases e : cap = lo
  · have h0 : n = 0 := by omega
    subst h0
    exact .inl (by simp)
  · rw [if_neg e]
    rcases h with h | ⟨g, off, h1, h2⟩
    · subst h; exact .inl (by simp)
    · subst h1
      refine .inr ⟨g, off + lo * 2, ?_, fun j hj => ?_⟩
      · simp only [Option.map_some, Addr.add]
        split <;> simp_all
      · rw [hl] at hj
        have := h2 (lo + j) (by omega)
        have he : ((ps.drop lo).take n)[j]'(by rw [hl]; exact hj) = ps[lo + j] := by simp
        rw [he, show off + lo * 2 + j * 2 = off + (lo + j) * 2 from by omega]
        exact this

theorem Pairs.part {w : World} {g off : Nat} {ps : List PairX} (h : Pairs w (some ⟨g, off, none⟩) ps) (lo n : Nat) (hn : lo + n ≤ ps.length) : Pairs w (some ⟨g, off + lo * 2, none⟩) ((ps.drop lo).take n) := by
  have hl : ((ps.drop lo).take n).length = n := by simp; omega
  rcases h with h | ⟨g', off', h1, h2⟩
  · subst h; exact .inl (by simp)
  · simp only [Option.some.injEq, Addr.mk.injEq, and_true] at h1
    obtain ⟨rfl, rfl⟩ := h1
    refine .inr ⟨g, off + lo * 2, rfl, fun j hj => ?_⟩
    rw [hl] at hj
    have := h2 (lo + j) (by omega)
    have he : ((ps.drop lo).take n)[j]'(by rw [hl]; exact hj) = ps[lo + j] := by simp
    rw [he, show off + lo * 2 + j * 2 = off + (lo + j) * 2 from by omega]
    exact this

/-- The room that pairs take. -/
def psize (p : PairX) : Nat := 4 + p.ks.length + p.vs.length
def psum (ps : List PairX) : Nat := (ps.map psize).sum
theorem psum_snoc (ps : List PairX) (j : Nat) (h : j < ps.length) : psum (ps.take (j + 1)) = psum (ps.take j) + psize ps[j] := by
  unfold psum
  rw [List.take_succ_eq_append_getElem h, List.map_append, List.sum_append]
  simp
theorem psum_take_le (ps : List PairX) : ∀ j, psum (ps.take j) ≤ psum ps := by
  intro j
  have h : psum ps = psum (ps.take j) + psum (ps.drop j) := by
    unfold psum
    rw [← List.sum_append, ← List.map_append, List.take_append_drop]
  omega
theorem psum_drop_le (ps : List PairX) : ∀ j, psum (ps.drop j) ≤ psum ps := by
  intro j
  have h : psum ps = psum (ps.take j) + psum (ps.drop j) := by
    unfold psum
    rw [← List.sum_append, ← List.map_append, List.take_append_drop]
  omega
theorem psum_len (ps : List PairX) : 4 * ps.length ≤ psum ps := by
  induction ps with
  | nil => simp [psum]
  | cons p r ih =>
    have : psum (p :: r) = psize p + psum r := by simp [psum]
    have h2 : 4 ≤ psize p := by unfold psize; omega
    simp only [List.length_cons]; omega

end Go.Proofs.Ytfnbmigldciblaa
