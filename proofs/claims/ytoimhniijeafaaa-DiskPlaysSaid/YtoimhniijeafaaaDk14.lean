/- Scripts of operations: out of an argument; great. -/
import Derived.Test.YtoimhniijeafaaaDk11
import Derived.Test.YtoimhniijeafaaaFrame
import Derived.Deep.Slices
namespace Go.Proofs.Ytoimhniijeafaaa
open Go.ChangeShapes Go.WideShapes Go.ChangeAt Go.RowKit Go.Deep
set_option linter.unusedVariables false

/-- An operation as it lies in memory, and what it reads as. -/
structure LOp where
  kd : Int
  at' : Int
  da : Option Addr
  dc : Nat
  ds : List UInt8
  raw : Bool
  fa : Option Addr
  fc : Nat
  fs : List Int
def LOp.cells (o : LOp) : List Value := [.int .i64 o.kd, .int .i64 o.at', .slice o.da o.ds.length o.dc, .bool o.raw, .slice o.fa o.fs.length o.fc]
def LOp.In (w : World) (o : LOp) : Prop := Bytes w (.slice o.da o.ds.length o.dc) o.ds ∧ Ints w (.slice o.fa o.fs.length o.fc) o.fs
def OpsAt (w : World) (g off : Nat) (ops : List LOp) : Prop := ∀ j (h : j < ops.length), w.rangeAt g (off + j * 5) ops[j].cells ∧ ops[j].In w
def Ops (w : World) (ao : Option Addr) (ops : List LOp) : Prop := ops = [] ∨ ∃ g off, ao = some ⟨g, off, none⟩ ∧ OpsAt w g off ops
theorem OpsAt.same {w w' : World} {g off : Nat} {ops : List LOp} (h : OpsAt w g off ops) (k : Same w w') : OpsAt w' g off ops := fun j hj =>
  ⟨rangeAt_keep (h j hj).1 k (fun _ e => e), (h j hj).2.1.same k, (h j hj).2.2.same k⟩
theorem Ops.same {w w' : World} {ao : Option Addr} {ops : List LOp} (h : Ops w ao ops) (k : Same w w') : Ops w' ao ops := by
  rcases h with h | ⟨g, off, e, h⟩
  · exact .inl h
  · exact .inr ⟨g, off, e, h.same k⟩
/-- The element at a place. -/
theorem Ops.at {w : World} {ao : Option Addr} {ops : List LOp} (h : Ops w ao ops) (h0 : 0 < ops.length) : ∃ g off, ao = some ⟨g, off, none⟩ ∧ OpsAt w g off ops := by
  rcases h with h | h
  · subst h; simp at h0
  · exact h

section
variable {H : Type} {enc : TypeId × Value → H} {P : Program}
theorem open_ints_at {W : World} {t e : TypeId} {v : Value} {fuel : Nat} {x : DataW H × List MemPlace} (ht : P.underlying t = some (.slice e)) (he : P.underlying e = some (.int .i64)) (hc : P.cellsOf e = 1)
    (hf : DataW.trod enc P W 0 (fun _ => true) true fuel t [v] = some x) :
    ∃ zs ao cap, v = .slice ao zs.length cap ∧ Ints W v zs := by
  rcases Go.ChangeShapes.open_ints ht he hc hf with ⟨hcs, hx⟩ | ⟨a, len, cap, zs, hcs, _, hl, hm, hz, hx, hcell, hwz⟩
  · simp only [List.cons.injEq, and_true] at hcs
    subst hcs
    exact ⟨[], none, 0, rfl, Ints.nil _ _ _⟩
  · simp only [List.cons.injEq, and_true] at hcs
    subst hcs
    simp only [if_true] at hz
    have hlen : (zs.take len).length = len := by simp; omega
    refine ⟨zs.take len, some a, cap, by rw [hlen], .inl ⟨a, cap, by rw [hlen], fun j u hu => ?_⟩⟩
    have hj : j < len := by
      have := (List.getElem?_eq_some_iff.1 hu).1
      rw [hlen] at this; exact this
    have hjz : j < zs.length := by omega
    rw [hcell j hjz]
    have e2 : (zs.take len)[j]? = some zs[j] := by simp [hj, hjz]
    rw [e2] at hu
    rw [List.getD_eq_getElem?_getD, List.getElem?_eq_getElem hjz, Option.getD_some, Option.some.inj hu]
end

variable {H : Type} {enc : TypeId × Value → H}
theorem cellsInt : Try.prog.cellsOf 3 = 1 := by kernel_rfl
theorem cellsU8 : Try.prog.cellsOf 5 = 1 := by kernel_rfl
theorem cellsSl : Try.prog.cellsOf 31 = 1 := by kernel_rfl
theorem cellsIs : Try.prog.cellsOf 32 = 1 := by kernel_rfl
theorem cellsBool : Try.prog.cellsOf 4 = 1 := by kernel_rfl
theorem cellsLOp : Try.prog.cellsOf 34 = 5 := by kernel_rfl
theorem five_of {α : Type} : ∀ (l : List α), l.length = 5 → ∃ a b c d e, l = [a, b, c, d, e]
  | [a, b, c, d, e], _ => ⟨a, b, c, d, e, rfl⟩
theorem open_lop_trod {W : World} {cs : List Value} {fuel : Nat} {x : DataW H × List MemPlace} (hf : DataW.trod enc Try.prog W 0 (fun _ => true) true fuel 34 cs = some x) :
    ∃ o : LOp, cs = o.cells ∧ o.In W := by
  obtain ⟨xs, m, _, _, hlen, hxs, hfd⟩ := DataW.trod_struct Try.underlying34 hf
  rw [cellsLOp] at hlen
  obtain ⟨c0, c1, c2, c3, c4, rfl⟩ := five_of cs hlen
  obtain ⟨x0, x1, x2, x3, x4, rfl⟩ := five_of xs hxs
  have f0 : DataW.trod enc Try.prog W 0 (fun _ => true) true m 3 [c0] = some x0 := by simpa [cellsInt] using hfd 0 _ rfl
  have f1 : DataW.trod enc Try.prog W 0 (fun _ => true) true m 3 [c1] = some x1 := by simpa [cellsInt] using hfd 1 _ rfl
  have f2 : DataW.trod enc Try.prog W 0 (fun _ => true) true m 31 [c2] = some x2 := by simpa [cellsSl] using hfd 2 _ rfl
  have f3 : DataW.trod enc Try.prog W 0 (fun _ => true) true m 4 [c3] = some x3 := by simpa [cellsBool] using hfd 3 _ rfl
  have f4 : DataW.trod enc Try.prog W 0 (fun _ => true) true m 32 [c4] = some x4 := by simpa [cellsIs] using hfd 4 _ rfl
  obtain ⟨z0, e0, _, w0⟩ := DataW.trod_int Try.underlying3 f0
  obtain ⟨z1, e1, _, w1⟩ := DataW.trod_int Try.underlying3 f1
  obtain ⟨bs, ao, cb, hv, hb, _, _, _⟩ := open_bytes_trod Try.underlying31 Try.underlying5 cellsU8 f2
  obtain ⟨b3, e3, _⟩ := DataW.trod_bool Try.underlying4 f3
  obtain ⟨zs, fo, fc, hv4, hb4⟩ := open_ints_at Try.underlying32 Try.underlying3 cellsInt f4
  simp only [List.cons.injEq, and_true] at e0 e1 e3
  subst e0; subst e1; subst e3; subst hv; subst hv4
  exact ⟨⟨z0, z1, ao, cb, bs, b3, fo, fc, zs⟩, rfl, hb, hb4⟩
theorem open_ops {W : World} {base : Nat} {v : Value} {d : DataW H} {ps : List MemPlace} (hok : Value.okWide Try.prog W .any base 23 v) (h : DataW.Trod enc Try.prog W 0 (fun _ => true) true 23 v d ps) :
    ∃ ao cap ops, v = .slice ao ops.length cap ∧ Ops W ao ops := by
  obtain ⟨a0, len0, cap0, rfl⟩ := okWide_slice Try.underlying23 hok
  obtain ⟨fuel, hf⟩ := h
  rcases open_slice Try.underlying23 hf with ⟨hcs, _⟩ | ⟨a, len, cap, m, n, DD, PP, hcs, _, hl, hm, hmm, _, hx⟩
  · simp [Value.cells] at hcs
    obtain ⟨rfl, rfl, rfl⟩ := hcs
    exact ⟨none, 0, [], rfl, .inl rfl⟩
  · simp [Value.cells] at hcs
    obtain ⟨rfl, rfl, rfl⟩ := hcs
    simp only [if_true] at hmm
    subst hmm
    have each : ∀ i, i < len0 → ∃ o : LOp, o.In W ∧ ∀ j u, o.cells[j]? = some u → W.cell? (a.add (i * 5 + j)) = some u := by
      intro i hi
      obtain ⟨cs', k1, k2⟩ := hx i (by omega)
      rw [cellsLOp] at k1
      obtain ⟨o, rfl, ho⟩ := open_lop_trod k2
      obtain ⟨_, hlen, hcell⟩ := World.cells?_some k1
      refine ⟨o, ho, fun j u hu => ?_⟩
      have hj : j < 5 := by
        have := (List.getElem?_eq_some_iff.1 hu).1
        simpa [LOp.cells] using this
      have := hcell j (by omega)
      rw [add_add] at this
      rw [this]
      have h2 := (List.getElem?_eq_some_iff.1 hu)
      obtain ⟨h3, h4⟩ := h2
      rw [← h4]
      simp
    haveI : Inhabited LOp := ⟨⟨0, 0, none, 0, [], false, none, 0, []⟩⟩
    obtain ⟨f, hfn⟩ := choose_lt each
    refine ⟨some a, _, (List.range len0).map f, by rw [List.length_map, List.length_range], ?_⟩
    by_cases hz : len0 = 0
    · subst hz; exact .inl rfl
    · have hsp : a.spot = none := by
        have h := (hfn 0 (by omega)).2 0 _ rfl
        have ha : a.add (0 * 5 + 0) = a := rfl
        rw [ha] at h
        cases hs : a.spot with
        | none => rfl
        | some s =>
          have h2 := (hfn 0 (by omega)).2 2 _ rfl
          simp only [World.cell?, Addr.add, hs] at h h2
          split at h <;> simp_all
      obtain ⟨g, off, spot⟩ := a
      simp only at hsp
      subst hsp
      refine .inr ⟨g, off, rfl, fun j hj => ?_⟩
      have hj' : j < len0 := by simpa using hj
      obtain ⟨q1, q2⟩ := hfn j hj'
      have e1 : ((List.range len0).map f)[j] = f j := by simp
      rw [e1]
      refine ⟨fun q u hu => ?_, q1⟩
      have := q2 q u hu
      have a1 : (⟨g, off, none⟩ : Addr).add (j * 5 + q) = ⟨g, off + j * 5 + q, none⟩ := by unfold Addr.add; split <;> simp_all <;> omega
      rwa [a1] at this
end Go.Proofs.Ytoimhniijeafaaa
