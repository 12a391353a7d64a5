/- Scripts of operations out of an argument, their numbers within the machine's. -/
import Derived.Test.YtoimhniijeafaaaDk14
namespace Go.Proofs.Ytoimhniijeafaaa
open Go.ChangeShapes Go.WideShapes Go.ChangeAt Go.RowKit Go.Deep
set_option linter.unusedVariables false

theorem i64_of_wf {n : Int} (h : (Lit.int .i64 n).wf = true) : -9223372036854775808 ≤ n ∧ n ≤ 9223372036854775807 := by
  simp [Lit.wf] at h
  have e1 : IntKind.i64.min = -9223372036854775808 := by decide
  have e2 : IntKind.i64.max = 9223372036854775807 := by decide
  omega
def LOp.Wf (o : LOp) : Prop := (-9223372036854775808 ≤ o.at' ∧ o.at' ≤ 9223372036854775807) ∧ ∀ z ∈ o.fs, -9223372036854775808 ≤ z ∧ z ≤ 9223372036854775807

section
variable {H : Type} {enc : TypeId × Value → H} {P : Program}
theorem open_ints_wf {W : World} {t e : TypeId} {v : Value} {fuel : Nat} {x : DataW H × List MemPlace} (ht : P.underlying t = some (.slice e)) (he : P.underlying e = some (.int .i64)) (hc : P.cellsOf e = 1)
    (hf : DataW.trod enc P W 0 (fun _ => true) true fuel t [v] = some x) :
    ∃ zs ao cap, v = .slice ao zs.length cap ∧ Ints W v zs ∧ ∀ z ∈ zs, (Lit.int .i64 z).wf = true := by
  rcases Go.ChangeShapes.open_ints ht he hc hf with ⟨hcs, hx⟩ | ⟨a, len, cap, zs, hcs, _, hl, hm, hz, hx, hcell, hwz⟩
  · simp only [List.cons.injEq, and_true] at hcs
    subst hcs
    exact ⟨[], none, 0, rfl, Ints.nil _ _ _, by simp⟩
  · simp only [List.cons.injEq, and_true] at hcs
    subst hcs
    simp only [if_true] at hz
    have hlen : (zs.take len).length = len := by simp; omega
    refine ⟨zs.take len, some a, cap, by rw [hlen], .inl ⟨a, cap, by rw [hlen], fun j u hu => ?_⟩, fun z hz2 => hwz z (List.mem_of_mem_take hz2)⟩
    have hj : j < len := by
      have := (List.getElem?_eq_some_iff.1 hu).1
      rw [hlen] at this; exact this
    have hjz : j < zs.length := by omega
    rw [hcell j hjz]
    have e2 : (zs.take len)[j]? = some zs[j] := by simp [hj, hjz]
    rw [e2] at hu
    rw [List.getD_eq_getElem?_getD, List.getElem?_eq_getElem hjz, Option.getD_some, Option.some.inj hu]
end

variable {H : Type} {enc : TypeId × Value → H}
theorem open_lop_wf {W : World} {cs : List Value} {fuel : Nat} {x : DataW H × List MemPlace} (hf : DataW.trod enc Try.prog W 0 (fun _ => true) true fuel 34 cs = some x) :
    ∃ o : LOp, cs = o.cells ∧ o.In W ∧ o.Wf := by
  obtain ⟨xs, m, _, _, hlen, hxs, hfd⟩ := DataW.trod_struct Try.underlying34 hf
  rw [cellsLOp] at hlen
  obtain ⟨c0, c1, c2, c3, c4, rfl⟩ := five_of cs hlen
  obtain ⟨x0, x1, x2, x3, x4, rfl⟩ := five_of xs hxs
  have f0 : DataW.trod enc Try.prog W 0 (fun _ => true) true m 3 [c0] = some x0 := by simpa [cellsInt] using hfd 0 _ rfl
  have f1 : DataW.trod enc Try.prog W 0 (fun _ => true) true m 3 [c1] = some x1 := by simpa [cellsInt] using hfd 1 _ rfl
  have f2 : DataW.trod enc Try.prog W 0 (fun _ => true) true m 31 [c2] = some x2 := by simpa [cellsSl] using hfd 2 _ rfl
  have f3 : DataW.trod enc Try.prog W 0 (fun _ => true) true m 4 [c3] = some x3 := by simpa [cellsBool] using hfd 3 _ rfl
  have f4 : DataW.trod enc Try.prog W 0 (fun _ => true) true m 32 [c4] = some x4 := by simpa [cellsIs] using hfd 4 _ rfl
  obtain ⟨z0, e0, _, w0⟩ := DataW.trod_int Try.underlying3 f0
  obtain ⟨z1, e1, _, w1⟩ := DataW.trod_int Try.underlying3 f1
  obtain ⟨bs, ao, cb, hv, hb, _, _, _⟩ := open_bytes_trod Try.underlying31 Try.underlying5 cellsU8 f2
  obtain ⟨b3, e3, _⟩ := DataW.trod_bool Try.underlying4 f3
  obtain ⟨zs, fo, fc, hv4, hb4, hwz⟩ := open_ints_wf Try.underlying32 Try.underlying3 cellsInt f4
  simp only [List.cons.injEq, and_true] at e0 e1 e3
  subst e0; subst e1; subst e3; subst hv; subst hv4
  exact ⟨⟨z0, z1, ao, cb, bs, b3, fo, fc, zs⟩, rfl, ⟨hb, hb4⟩, i64_of_wf w1, fun z hz => i64_of_wf (hwz z hz)⟩
theorem open_ops_wf {W : World} {base : Nat} {v : Value} {d : DataW H} {ps : List MemPlace} (hok : Value.okWide Try.prog W .any base 23 v) (h : DataW.Trod enc Try.prog W 0 (fun _ => true) true 23 v d ps) :
    ∃ ao cap ops, v = .slice ao ops.length cap ∧ Ops W ao ops ∧ ∀ o ∈ ops, o.Wf := by
  obtain ⟨a0, len0, cap0, rfl⟩ := okWide_slice Try.underlying23 hok
  obtain ⟨fuel, hf⟩ := h
  rcases open_slice Try.underlying23 hf with ⟨hcs, _⟩ | ⟨a, len, cap, m, n, DD, PP, hcs, _, hl, hm, hmm, _, hx⟩
  · simp [Value.cells] at hcs
    obtain ⟨rfl, rfl, rfl⟩ := hcs
    exact ⟨none, 0, [], rfl, .inl rfl, by simp⟩
  · simp [Value.cells] at hcs
    obtain ⟨rfl, rfl, rfl⟩ := hcs
    simp only [if_true] at hmm
    subst hmm
    have each : ∀ i, i < len0 → ∃ o : LOp, (o.In W ∧ o.Wf) ∧ ∀ j u, o.cells[j]? = some u → W.cell? (a.add (i * 5 + j)) = some u := by
      intro i hi
      obtain ⟨cs', k1, k2⟩ := hx i (by omega)
      rw [cellsLOp] at k1
      obtain ⟨o, rfl, ho⟩ := open_lop_wf k2
      obtain ⟨_, hlen, hcell⟩ := World.cells?_some k1
      refine ⟨o, ho, fun j u hu => ?_⟩
      have hj : j < 5 := by
        have := (List.getElem?_eq_some_iff.1 hu).1
        simpa [LOp.cells] using this
      have := hcell j (by omega)
      rw [add_add] at this
      rw [this]
      have h2 := (List.getElem?_eq_some_iff.1 hu)
      obtain ⟨h3, h4⟩ := h2
      rw [← h4]
      simp
    haveI : Inhabited LOp := ⟨⟨0, 0, none, 0, [], false, none, 0, []⟩⟩
    obtain ⟨f, hfn⟩ := choose_lt each
    refine ⟨some a, _, (List.range len0).map f, by rw [List.length_map, List.length_range], ?_, fun o ho => by
      simp only [List.mem_map, List.mem_range] at ho
      obtain ⟨i, hi, rfl⟩ := ho
      exact (hfn i hi).1.2⟩
    by_cases hz : len0 = 0
    · subst hz; exact .inl rfl
    · have hsp : a.spot = none := by
        have h := (hfn 0 (by omega)).2 0 _ rfl
        have ha : a.add (0 * 5 + 0) = a := rfl
        rw [ha] at h
        cases hs : a.spot with
        | none => rfl
        | some s =>
          have h2 := (hfn 0 (by omega)).2 2 _ rfl
          simp only [World.cell?, Addr.add, hs] at h h2
          split at h <;> simp_all
      obtain ⟨g, off, spot⟩ := a
      simp only at hsp
      subst hsp
      refine .inr ⟨g, off, rfl, fun j hj => ?_⟩
      have hj' : j < len0 := by simpa using hj
      obtain ⟨⟨q1, _⟩, q2⟩ := hfn j hj'
      have e1 : ((List.range len0).map f)[j] = f j := by simp
      rw [e1]
      refine ⟨fun q u hu => ?_, q1⟩
      have := q2 q u hu
      have a1 : (⟨g, off, none⟩ : Addr).add (j * 5 + q) = ⟨g, off + j * 5 + q, none⟩ := by unfold Addr.add; split <;> simp_all <;> omega
      rwa [a1] at this
end Go.Proofs.Ytoimhniijeafaaa
