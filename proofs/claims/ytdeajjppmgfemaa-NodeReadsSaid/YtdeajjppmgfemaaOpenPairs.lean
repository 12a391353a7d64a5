/- Slices of pairs out of an argument. -/
import Derived.Test.YtdeajjppmgfemaaFrame
import Derived.Test.YtdeajjppmgfemaaShape8
import Derived.Test.YtdeajjppmgfemaaOpenRows
import Derived.Deep.SlicePairs
namespace Go.Proofs.Ytdeajjppmgfemaa
open Go.ChangeShapes Go.WideShapes Go.ChangeAt Go.RowKit Go.Deep
set_option linter.unusedVariables false

theorem open_pairs {H : Type} {enc : TypeId × Value → H} {P : Program} {W : World} {base : Nat} {t e b : TypeId} {f0 f1 : Field} {v : Value} {d : DataW H} {ps : List MemPlace} (ht : P.underlying t = some (.slice e)) (he : P.underlying e = some (.struct #[f0, f1]))
    (ce : P.cellsOf e = 2) (o0 : f0.offset = 0) (o1 : f1.offset = 1) (c0 : P.cellsOf f0.type = 1) (c1 : P.cellsOf f1.type = 1) (h0 : P.underlying f0.type = some (.slice b)) (h1 : P.underlying f1.type = some (.slice b)) (hb : P.underlying b = some (.int .u8)) (hcb : P.cellsOf b = 1)
    (hok : Value.okWide P W .any base t v) (h : DataW.Trod enc P W 0 (fun _ => true) true t v d ps) :
    ∃ ao cap xs, v = .slice ao xs.length cap ∧ Pairs W ao xs ∧ xs.length ≤ cap ∧ cap ≤ maxLen ∧ ∀ p ∈ xs, p.ks.length ≤ maxLen ∧ p.vs.length ≤ maxLen := by
  obtain ⟨a0, len0, cap0, rfl⟩ := okWide_slice ht hok
  obtain ⟨fuel, hf⟩ := h
  rcases open_slice_pairs ht he ce o0 o1 c0 c1 hf with ⟨hcs, _⟩ | ⟨a, len, cap, m, n, V0, V1, D0, D1, P0, P1, hcs, _, hl, hm, hmm, _, hx⟩
  · simp [Value.cells] at hcs
    obtain ⟨rfl, rfl, rfl⟩ := hcs
    exact ⟨none, 0, [], rfl, .inl rfl, Nat.le_refl _, by unfold maxLen; omega, fun _ e => by simp at e⟩
  · simp [Value.cells] at hcs
    obtain ⟨rfl, rfl, rfl⟩ := hcs
    simp only [if_true] at hmm
    subst hmm
    have each : ∀ i, i < len0 → ∃ p : PairX, W.cell? (a.add (i * 2)) = some p.kv ∧ W.cell? (a.add (i * 2 + 1)) = some p.vv ∧ Bytes W p.kv p.ks ∧ Bytes W p.vv p.vs ∧ p.ks.length ≤ maxLen ∧ p.vs.length ≤ maxLen ∧
        (∀ a n c, p.kv = .slice (some a) n c → p.ks ≠ [] → a.spot = none) ∧ (∀ a n c, p.vv = .slice (some a) n c → p.vs ≠ [] → a.spot = none) := by
      intro i hi
      obtain ⟨k1, k2, k3, k4⟩ := hx i (by omega)
      obtain ⟨bs, ao, cb, hv, hb2, h3, h4, h5⟩ := open_bytes_trod h0 hb hcb k3
      obtain ⟨bs', ao', cb', hv', hb2', h3', h4', h5'⟩ := open_bytes_trod h1 hb hcb k4
      refine ⟨⟨V0 i, bs, V1 i, bs'⟩, k1, k2, hb2, hb2', by simp only; omega, by simp only; omega, fun a n c e => ?_, fun a n c e => ?_⟩
      · simp only at e ⊢
        rw [hv] at e
        simp only [Value.slice.injEq] at e
        exact h5 a e.1
      · simp only at e ⊢
        rw [hv'] at e
        simp only [Value.slice.injEq] at e
        exact h5' a e.1
    obtain ⟨f, hfn⟩ := choose_rows (⟨.slice none 0 0, [], .slice none 0 0, []⟩ : PairX) each
    refine ⟨some a, _, (List.range len0).map f, by rw [List.length_map, List.length_range], ?_, by simp; omega, hm, fun r hr => ?_⟩
    · by_cases hz : len0 = 0
      · subst hz; exact .inl rfl
      · have hsp : a.spot = none := by
          have h := (hfn 0 (by omega)).1
          have ha : a.add (0 * 2) = a := rfl
          rw [ha] at h
          cases hs : a.spot with
          | none => rfl
          | some s =>
            have hb3 := (hfn 0 (by omega)).2.2.1
            obtain ⟨ao, c, hk⟩ := hb3.form
            rw [hk] at h
            simp only [World.cell?, hs] at h
            split at h <;> simp at h
        obtain ⟨g, off, spot⟩ := a
        simp only at hsp
        subst hsp
        refine .inr ⟨g, off, rfl, fun j hj => ?_⟩
        have hj' : j < len0 := by simpa using hj
        obtain ⟨q1, q2, q3, q4, _, _, q5, q6⟩ := hfn j hj'
        have e1 : ((List.range len0).map f)[j] = f j := by simp
        have a1 : (⟨g, off, none⟩ : Addr).add (j * 2) = ⟨g, off + j * 2, none⟩ := by unfold Addr.add; split <;> simp_all
        have a2 : (⟨g, off, none⟩ : Addr).add (j * 2 + 1) = ⟨g, off + j * 2 + 1, none⟩ := by unfold Addr.add; split <;> simp_all <;> omega
        rw [a1] at q1
        rw [a2] at q2
        rw [e1]
        exact ⟨q1, q2, q3, q4, q5, q6⟩
    · simp only [List.mem_map, List.mem_range] at hr
      obtain ⟨i, hi, rfl⟩ := hr
      exact ⟨(hfn i hi).2.2.2.2.1, (hfn i hi).2.2.2.2.2.1⟩

end Go.Proofs.Ytdeajjppmgfemaa
