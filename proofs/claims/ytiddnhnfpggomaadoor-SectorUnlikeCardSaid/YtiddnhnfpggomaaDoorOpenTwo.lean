/- Two nodes' records out of an argument. -/
import Derived.Test.YtiddnhnfpggomaaDoorOpenSup
namespace Go.Proofs.YtiddnhnfpggomaaDoor
open Go.ChangeShapes Go.WideShapes Go.ChangeAt Go.RowKit
set_option linter.unusedVariables false
variable {H : Type} {enc : TypeId × Value → H}
theorem cellsTwo : Tryd.prog.cellsOf 43 = 74 := by kernel_rfl
theorem okWide_array {P : Program} {W : World} {r : Reach} {base : Nat} {t e : TypeId} {n : Nat} {v : Value} (ht : P.underlying t = some (.array n e)) (h : Value.okWide P W r base t v) : ∃ cs, v = .agg cs ∧ cs.size = P.cellsOf t := by
  simp only [Value.okWide, ht] at h
  obtain ⟨cs, h1, h2, _⟩ := h
  exact ⟨cs, h1, h2⟩
theorem open_two {W : World} {base : Nat} {v : Value} {d : DataW H} {ps : List MemPlace} (hok : Value.okWide Tryd.prog W .any base 43 v) (h : DataW.Trod enc Tryd.prog W 0 (fun _ => true) true 43 v d ps) :
    ∃ s t : Sup, s.Ok ∧ t.Ok ∧ v = .agg (s.cells ++ t.cells).toArray := by
  obtain ⟨cs, rfl, _⟩ := okWide_array Tryd.underlying43 hok
  obtain ⟨fuel, hf⟩ := h
  obtain ⟨xs, m, _, _, hlen, hxl, hel⟩ := DataW.trod_array Tryd.underlying43 hf
  rw [cellsTwo] at hlen
  have h0 := hel 0 (by omega)
  have h1 := hel 1 (by omega)
  rw [cellsSup, List.getElem?_eq_getElem (by omega)] at h0 h1
  obtain ⟨s, hs, es⟩ := open_sup_trod h0
  obtain ⟨t, ht, et⟩ := open_sup_trod h1
  refine ⟨s, t, hs, ht, ?_⟩
  have hcl : cs.toList.length = 74 := by simpa [Value.cells] using hlen
  have e : cs.toList = s.cells ++ t.cells := by
    rw [← es, ← et]
    simp only [Value.cells, Nat.zero_mul, List.drop_zero, Nat.one_mul]
    rw [List.take_of_length_le (l := cs.toList.drop 37) (by rw [List.length_drop]; omega)]
    exact (List.take_append_drop 37 cs.toList).symm
  rw [← e]

end Go.Proofs.YtiddnhnfpggomaaDoor
