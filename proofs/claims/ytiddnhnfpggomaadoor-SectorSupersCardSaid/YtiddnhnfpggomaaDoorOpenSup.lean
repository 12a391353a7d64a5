/- What a node knows of itself, out of an argument. -/
import Derived.Test.YtiddnhnfpggomaaDoorFrame
import Derived.Test.YtiddnhnfpggomaaDoorSec5
import Derived.OpenShut
namespace Go.Proofs.YtiddnhnfpggomaaDoor
open Go.ChangeShapes Go.WideShapes Go.ChangeAt Go.RowKit
set_option linter.unusedVariables false

variable {H : Type} {enc : TypeId × Value → H}
theorem cellsU64s : Tryd.prog.cellsOf 30 = 1 := by kernel_rfl
theorem cellsU8s : Tryd.prog.cellsOf 5 = 1 := by kernel_rfl
theorem cellsHash : Tryd.prog.cellsOf 32 = 32 := by kernel_rfl
theorem cellsSup : Tryd.prog.cellsOf 34 = 37 := by kernel_rfl
theorem fieldsSup : (Tryd.prog.fieldsOf 34).toList.map (fun f => (f.type, f.offset)) = [(30, 0), (30, 1), (30, 2), (30, 3), (30, 4), (32, 5)] := by kernel_rfl
theorem u8_of_wf (n : Int) (h : (Lit.int .u8 n).wf = true) : ∃ b : UInt8, n = (b.toNat : Int) := by
  have h2 : 0 ≤ n ∧ n < 256 := by
    simp [Lit.wf] at h
    have e1 : IntKind.u8.min = 0 := by decide
    have e2 : IntKind.u8.max = 255 := by decide
    omega
  exact ⟨UInt8.ofNat n.toNat, by rw [UInt8.toNat_ofNat']; omega⟩
theorem u64_of_wf (n : Int) (h : (Lit.int .u64 n).wf = true) : ∃ k : Nat, n = (k : Int) ∧ k < 18446744073709551616 := by
  have h2 : 0 ≤ n ∧ n < 18446744073709551616 := by
    simp [Lit.wf] at h
    have e1 : IntKind.u64.min = 0 := by decide
    have e2 : IntKind.u64.max = 18446744073709551615 := by decide
    omega
  exact ⟨n.toNat, by omega, by omega⟩

theorem open_hash_trod {W : World} {cs : List Value} {fuel : Nat} {x : DataW H × List MemPlace} (hf : DataW.trod enc Tryd.prog W 0 (fun _ => true) true fuel 32 cs = some x) :
    ∃ hd : List UInt8, hd.length = 32 ∧ cs = u8s hd := by
  obtain ⟨xs, m, _, _, hlen, hxl, hel⟩ := DataW.trod_array Tryd.underlying32 hf
  rw [cellsHash] at hlen
  have each : ∀ i, i < 32 → ∃ b : UInt8, cs[i]? = some (.int .u8 (b.toNat : Int)) := by
    intro i hi
    have h1 := hel i hi
    rw [cellsU8s, Nat.mul_one, List.getElem?_eq_getElem (by omega)] at h1
    obtain ⟨n, h2, _, h3⟩ := DataW.trod_int Tryd.underlying5 h1
    obtain ⟨b, rfl⟩ := u8_of_wf n h3
    refine ⟨b, ?_⟩
    have h4 : ((cs.drop i).take 1)[0]? = some (.int .u8 (b.toNat : Int)) := by rw [h2]; rfl
    simpa using h4
  obtain ⟨f, hf⟩ := choose_rows (0 : UInt8) each
  refine ⟨(List.range 32).map f, by simp, List.ext_getElem (by simp [u8s_length, hlen]) fun i h1 h2 => ?_⟩
  have h3 := hf i (by omega)
  rw [List.getElem?_eq_getElem h1] at h3
  simp only [u8s, List.map_map, List.getElem_map, List.getElem_range, Function.comp_apply]
  exact Option.some.inj h3

theorem open_sup_trod {W : World} {cs : List Value} {fuel : Nat} {x : DataW H × List MemPlace} (hf : DataW.trod enc Tryd.prog W 0 (fun _ => true) true fuel 34 cs = some x) :
    ∃ s : Sup, s.Ok ∧ cs = s.cells := by
  obtain ⟨xs, m, _, _, hlen, hxs, hfd⟩ := DataW.trod_struct Tryd.supIs hf
  rw [cellsSup] at hlen
  have hfl : (Tryd.prog.fieldsOf 34).toList.length = 6 := by kernel_rfl
  have fld : ∀ (i : Nat) (t : TypeId) (o : Nat), [(30, 0), (30, 1), (30, 2), (30, 3), (30, 4), (32, 5)][i]? = some (t, o) → ∃ y, DataW.trod enc Tryd.prog W 0 (fun _ => true) true m t ((cs.drop o).take (Tryd.prog.cellsOf t)) = some y := by
    intro i t o hi
    rw [← fieldsSup, List.getElem?_map] at hi
    obtain ⟨f, hf1, hf2⟩ := Option.map_eq_some_iff.1 hi
    simp only [Prod.mk.injEq] at hf2
    have h1 := hfd i f (by simpa using hf1)
    rw [hf2.1, hf2.2] at h1
    have hil : i < xs.length := by
      have := (List.getElem?_eq_some_iff.1 hf1).1
      rw [hxs]; simpa using this
    rw [List.getElem?_eq_getElem hil] at h1
    exact ⟨_, h1⟩
  have num : ∀ k, k < 5 → ∃ n : Nat, n < 18446744073709551616 ∧ cs[k]? = some (.int .u64 (n : Int)) := by
    intro k hk
    obtain ⟨y, hy⟩ := fld k 30 k (by
      match k, hk with
      | 0, _ => rfl
      | 1, _ => rfl
      | 2, _ => rfl
      | 3, _ => rfl
      | 4, _ => rfl)
    rw [cellsU64s] at hy
    obtain ⟨n, h2, _, h3⟩ := DataW.trod_int Tryd.underlying30 hy
    obtain ⟨j, rfl, hj⟩ := u64_of_wf n h3
    refine ⟨j, hj, ?_⟩
    have h4 : ((cs.drop k).take 1)[0]? = some (.int .u64 (j : Int)) := by rw [h2]; rfl
    simpa using h4
  obtain ⟨y, hy⟩ := fld 5 32 5 rfl
  obtain ⟨hd, hdl, hdc⟩ := open_hash_trod hy
  rw [cellsHash] at hdc
  obtain ⟨n0, l0, c0⟩ := num 0 (by omega)
  obtain ⟨n1, l1, c1⟩ := num 1 (by omega)
  obtain ⟨n2, l2, c2⟩ := num 2 (by omega)
  obtain ⟨n3, l3, c3⟩ := num 3 (by omega)
  obtain ⟨n4, l4, c4⟩ := num 4 (by omega)
  refine ⟨⟨n0, n1, n2, n3, n4, hd⟩, ⟨l0, l1, l2, l3, l4, hdl⟩, ?_⟩
  have e5 : cs = cs.take 5 ++ cs.drop 5 := (List.take_append_drop 5 cs).symm
  have e6 : cs.drop 5 = u8s hd := by rw [← hdc, List.take_of_length_le (by simp; omega)]
  have e7 : cs.take 5 = [.int .u64 (n0 : Int), .int .u64 (n1 : Int), .int .u64 (n2 : Int), .int .u64 (n3 : Int), .int .u64 (n4 : Int)] := by
    refine List.ext_getElem? fun i => ?_
    rw [List.getElem?_take]
    match i with
    | 0 => simpa using c0
    | 1 => simpa using c1
    | 2 => simpa using c2
    | 3 => simpa using c3
    | 4 => simpa using c4
    | i + 5 => simp; omega
  rw [e5, e6, e7]
  rfl
theorem open_sup {W : World} {base : Nat} {v : Value} {d : DataW H} {ps : List MemPlace} (hok : Value.okWide Tryd.prog W .any base 34 v) (h : DataW.Trod enc Tryd.prog W 0 (fun _ => true) true 34 v d ps) :
    ∃ s : Sup, s.Ok ∧ v = .agg s.cells.toArray := by
  obtain ⟨cs, rfl, _⟩ := okWide_struct Tryd.supIs hok
  obtain ⟨fuel, hf⟩ := h
  obtain ⟨s, hs, he⟩ := open_sup_trod hf
  refine ⟨s, hs, ?_⟩
  rw [← he]
  simp [Value.cells]

end Go.Proofs.YtiddnhnfpggomaaDoor
