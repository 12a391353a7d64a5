/- Slices of slices of bytes, and such out of an argument. -/
import Derived.Test.YtafgiljgefeefaaDoorFrame
import Derived.Test.YtafgiljgefeefaaDoorFresh
import Derived.Deep.Slices
namespace Go.Proofs.YtafgiljgefeefaaDoor
open Go.ChangeShapes Go.WideShapes Go.ChangeAt Go.RowKit Go.Deep
set_option linter.unusedVariables false

/-- The slice x holds slices that read as bytes. -/
def Rows2 (w : World) (x : Value) (rs : List (Value × List UInt8)) : Prop :=
  (∃ a c, x = .slice (some a) rs.length c ∧ ∀ j r, rs[j]? = some r → w.cell? (a.add j) = some r.1 ∧ Bytes w r.1 r.2) ∨ (∃ c, x = .slice none 0 c ∧ rs = [])
theorem Rows2.same {w w' : World} {x : Value} {rs : List (Value × List UInt8)} (h : Rows2 w x rs) (k : Same w w') : Rows2 w' x rs := by
  rcases h with ⟨a, c, rfl, hc⟩ | h
  · refine .inl ⟨a, c, rfl, fun j u hu => ?_⟩
    have h1 := hc j u hu
    have hb : (a.add j).block = a.block := by unfold Addr.add; split <;> rfl
    have hlt := World.block_lt_of_cell? w _ h1.1
    rw [World.cell?_of_block (w := w) (k.block _ hlt (fun e => e))]
    exact ⟨h1.1, h1.2.same k⟩
  · exact .inr h
theorem Rows2.at {w : World} {ao : Option Addr} {n c : Nat} {rs : List (Value × List UInt8)} (h : Rows2 w (.slice ao n c) rs) {j : Nat} (hj : j < rs.length) : ∃ a xo xc, ao = some a ∧ rs[j].1 = .slice xo rs[j].2.length xc ∧ w.cell? (a.add j) = some (.slice xo rs[j].2.length xc) ∧ Bytes w (.slice xo rs[j].2.length xc) rs[j].2 := by
  rcases h with ⟨a', c', h1, hc⟩ | ⟨c, h, h1⟩
  · simp only [Value.slice.injEq] at h1
    obtain ⟨rfl, _, _⟩ := h1
    obtain ⟨h2, h3⟩ := hc j _ (List.getElem?_eq_getElem hj)
    obtain ⟨xo, xc, hx⟩ := h3.form
    rw [hx] at h2 h3
    exact ⟨_, xo, xc, rfl, hx, h2, h3⟩
  · subst h1; simp at hj

theorem choose_rows {α : Type} {n : Nat} {p : Nat → α → Prop} (d : α) (h : ∀ i, i < n → ∃ x, p i x) : ∃ f : Nat → α, ∀ i, i < n → p i (f i) := by
  classical
  refine ⟨fun i => if hi : i < n then Classical.choose (h i hi) else d, fun i hi => ?_⟩
  simp only [dif_pos hi]
  exact Classical.choose_spec (h i hi)

theorem open_rows2 {H : Type} {enc : TypeId × Value → H} {P : Program} {W : World} {base : Nat} {t e b : TypeId} {v : Value} {d : DataW H} {ps : List MemPlace} (ht : P.underlying t = some (.slice e)) (he : P.underlying e = some (.slice b)) (hb : P.underlying b = some (.int .u8)) (hc : P.cellsOf e = 1) (hcb : P.cellsOf b = 1)
    (hok : Value.okWide P W .any base t v) (h : DataW.Trod enc P W 0 (fun _ => true) true t v d ps) :
    ∃ ao cap rs, v = .slice ao rs.length cap ∧ Rows2 W v rs ∧ rs.length ≤ cap ∧ cap ≤ maxLen ∧ ∀ r ∈ rs, r.2.length ≤ maxLen := by
  obtain ⟨a0, len0, cap0, rfl⟩ := okWide_slice ht hok
  obtain ⟨fuel, hf⟩ := h
  rcases open_slice1 ht hc hf with ⟨hcs, _⟩ | ⟨a, len, cap, m, n, V, D, Pl, hcs, _, hl, hm, hmm, _, hx⟩
  · simp [Value.cells] at hcs
    obtain ⟨rfl, rfl, rfl⟩ := hcs
    exact ⟨none, 0, [], rfl, .inr ⟨0, rfl, rfl⟩, Nat.le_refl _, by unfold maxLen; omega, fun _ e => by simp at e⟩
  · simp [Value.cells] at hcs
    obtain ⟨rfl, rfl, rfl⟩ := hcs
    simp only [if_true] at hmm
    subst hmm
    have each : ∀ i, i < len0 → ∃ r : Value × List UInt8, W.cell? (a.add i) = some r.1 ∧ Bytes W r.1 r.2 ∧ r.2.length ≤ maxLen := by
      intro i hi
      obtain ⟨h1, h2⟩ := hx i (by omega)
      obtain ⟨bs, ao, cb, hv, hb2, h3, h4, _⟩ := open_bytes_trod he hb hcb h2
      exact ⟨⟨V i, bs⟩, h1, hb2, by simp only; omega⟩
    obtain ⟨f, hfn⟩ := choose_rows (.slice none 0 0, []) each
    refine ⟨some a, _, (List.range len0).map f, by rw [List.length_map, List.length_range], .inl ⟨a, _, by rw [List.length_map, List.length_range], fun j u hu => ?_⟩, by simp; omega, hm, fun r hr => ?_⟩
    · have hj : j < len0 := by
        have := (List.getElem?_eq_some_iff.1 hu).1
        simpa using this
      have : u = f j := by simpa [hj] using hu.symm
      rw [this]
      exact ⟨(hfn j hj).1, (hfn j hj).2.1⟩
    · simp only [List.mem_map, List.mem_range] at hr
      obtain ⟨i, hi, rfl⟩ := hr
      exact (hfn i hi).2.2

end Go.Proofs.YtafgiljgefeefaaDoor
