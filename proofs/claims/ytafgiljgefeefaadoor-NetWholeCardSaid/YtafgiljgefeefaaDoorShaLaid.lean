/- What the laid table gives: the round numbers in block 0. -/
import Derived.Test.YtafgiljgefeefaaDoorRows
import Derived.Test.YtafgiljgefeefaaDoorFrame
import Derived.Test.YtafgiljgefeefaaDoorSha8
import Derived.LaidMore
import Derived.Stop.Joined
namespace Go.Proofs.YtafgiljgefeefaaDoor
open Go.ChangeShapes Go.WideShapes Go.ChangeAt Go.RowKit
set_option linter.unusedVariables false

def theLaid : List (String × DataW Unit) := [("trireme/sha.roundNumbers", Rows.laid_trireme_sha_roundNumbers)]
theorem Tryd.gNums : Tryd.prog.globalNamed "trireme/sha.roundNumbers" = some 0 := by kernel_rfl
theorem Tryd.tNums : (Tryd.prog.globals[0]?).map (·.type) = some 121 := by kernel_rfl
theorem Tryd.cellsU32 : Tryd.prog.cellsOf 111 = 1 := by kernel_rfl
theorem door_met (os : Os) (args : Array Value) : laidMetH Tryd.prog theLaid ((World.doorLaid Tryd.prog 14 os).forCall (fun _ _ => 0) ⟨#[], args, []⟩).memory :=
  laidMetH_of_parts3 (fuel := 8) (laidMet_of_run' 8 (by kernel_rfl) (by kernel_rfl)) (by kernel_rfl) (by kernel_rfl)

theorem laid_eq : (Rows.laid_trireme_sha_roundNumbers : DataW Unit) = .agg (roundKs.map fun x => .lit (.int .u32 (wn x))) := by rfl
theorem laid_get (t : Nat) (ht : t < 64) (l : List (DataW Unit)) (hl : (Rows.laid_trireme_sha_roundNumbers : DataW Unit) = .agg l) : l[t]? = some (.lit (.int .u32 (wn (roundKs.getD t 0)))) := by
  rw [laid_eq, DataW.agg.injEq] at hl
  have ht' : t < roundKs.length := by rw [roundKs_length]; exact ht
  rw [← hl, List.getElem?_map, List.getElem?_eq_getElem ht', show roundKs.getD t 0 = roundKs[t]'ht' from by rw [List.getD_eq_getElem?_getD, List.getElem?_eq_getElem ht']; rfl]
  rfl

theorem nums_of_laid {W : World} (h : laidMetH Tryd.prog theLaid W) : Nums W := by
  rw [MakeChecks.laidMetH_plain _ _ _ (by kernel_rfl)] at h
  obtain ⟨ps, ⟨g0, t0, cs0, f0, p0, q0, hg0, ht0, hv0, hd0, _, _⟩, _, _⟩ := h
  obtain rfl := Option.some.inj (Tryd.gNums.symm.trans hg0)
  obtain rfl := Option.some.inj (Tryd.tNums.symm.trans ht0)
  obtain ⟨xs, m1, rfl, hx1, hlen, hn3, hel⟩ := DataW.trod_array Tryd.underlying121 hd0
  intro t ht
  have h0 := hel t ht
  simp only [Prod.mk.injEq] at hx1
  have hx := laid_get t ht _ hx1.1
  rw [List.getElem?_map, List.getElem?_eq_getElem (by omega)] at hx
  simp only [Option.map_some, Option.some.injEq] at hx
  rw [List.getElem?_eq_getElem (by omega), Tryd.cellsU32, Nat.mul_one] at h0
  obtain ⟨k, e1, e2, _⟩ := DataW.trod_int Tryd.underlying111 h0
  rw [e2] at hx
  simp only [DataW.lit.injEq, Lit.int.injEq, true_and] at hx
  have hc := World.var?_cell hg0 hv0 t
  rw [hc]
  have : (cs0.toList.drop t)[0]? = some (.int .u32 k) := by
    have h9 : ((cs0.toList.drop t).take 1)[0]? = some (.int .u32 k) := by rw [e1]; rfl
    rwa [List.getElem?_take_of_lt (by omega)] at h9
  rw [List.getElem?_drop, Nat.add_zero] at this
  rw [← hx]
  simpa using this

end Go.Proofs.YtafgiljgefeefaaDoor
