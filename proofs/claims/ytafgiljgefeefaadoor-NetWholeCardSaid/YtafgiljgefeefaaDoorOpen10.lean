/- Operations and answers out of arguments. -/
import Derived.Test.YtafgiljgefeefaaDoorFrame
import Derived.Test.YtafgiljgefeefaaDoorAns1
import Derived.SliceStrings
namespace Go.Proofs.YtafgiljgefeefaaDoor
open Go.ChangeShapes Go.WideShapes Go.ChangeAt Go.RowKit
set_option linter.unusedVariables false

theorem six_of {α : Type} : ∀ (l : List α), l.length = 6 → ∃ a b c d e f, l = [a, b, c, d, e, f]
  | [a, b, c, d, e, f], _ => ⟨a, b, c, d, e, f, rfl⟩
theorem two_of {α : Type} : ∀ (l : List α), l.length = 2 → ∃ a b, l = [a, b]
  | [a, b], _ => ⟨a, b, rfl⟩

section
variable {H : Type} {enc : TypeId × Value → H} {P : Program}
/-- A []string that lies somewhere in what is read: it reads as texts. -/
theorem open_strs_trod {W : World} {t e : TypeId} {v : Value} {fuel : Nat} {x : DataW H × List MemPlace} (ht : P.underlying t = some (.slice e)) (he : P.underlying e = some .string) (hc : P.cellsOf e = 1)
    (hf : DataW.trod enc P W 0 (fun _ => true) true fuel t [v] = some x) :
    ∃ ss ao cap, v = .slice ao ss.length cap ∧ Strs W v ss ∧ ss.length ≤ cap ∧ cap ≤ maxLen ∧ ∀ s ∈ ss, s.size ≤ maxLen := by
  rcases open_strings ht he hc hf with ⟨hcs, hx⟩ | ⟨a, len, cap, zs, hcs, _, hl, hm, hz, hx, hcell, hwz⟩
  · simp only [List.cons.injEq, and_true] at hcs
    subst hcs
    exact ⟨[], none, 0, rfl, Strs.nil _ _ _, Nat.le_refl _, by unfold maxLen; omega, fun _ e => by simp at e⟩
  · simp only [List.cons.injEq, and_true] at hcs
    subst hcs
    simp only [if_true] at hz
    have hlen : (zs.take len).length = len := by simp; omega
    refine ⟨zs.take len, some a, cap, by rw [hlen], .inl ⟨a, cap, by rw [hlen], fun j u hu => ?_⟩, by rw [hlen]; exact hl, hm, fun s hs => hwz s (List.mem_of_mem_take hs)⟩
    have hj : j < len := by
      have := (List.getElem?_eq_some_iff.1 hu).1
      rw [hlen] at this; exact this
    have hjz : j < zs.length := by omega
    rw [hcell j hjz]
    have e2 : (zs.take len)[j]? = some zs[j] := by simp [hj, hjz]
    rw [e2] at hu
    rw [List.getD_eq_getElem?_getD, List.getElem?_eq_getElem hjz, Option.getD_some, Option.some.inj hu]
end

variable {H : Type} {enc : TypeId × Value → H}
theorem cellsStr : Tryd.prog.cellsOf 9 = 1 := by kernel_rfl
theorem cellsInt : Tryd.prog.cellsOf 3 = 1 := by kernel_rfl
theorem cellsU8 : Tryd.prog.cellsOf 5 = 1 := by kernel_rfl
theorem cellsSl : Tryd.prog.cellsOf 33 = 1 := by kernel_rfl
theorem cellsSs : Tryd.prog.cellsOf 39 = 1 := by kernel_rfl
theorem cellsOp : Tryd.prog.cellsOf 35 = 6 := by kernel_rfl
theorem cellsAns : Tryd.prog.cellsOf 41 = 4 := by kernel_rfl
theorem cellsErrno : Tryd.prog.cellsOf 38 = 1 := by kernel_rfl

/-- The cells of an operation. -/
def OpCells (W : World) (cs : List Value) (k off n : Int) (p t : ByteArray) (ao : Option Addr) (cap : Nat) (ds : List UInt8) : Prop :=
  cs = [.int .i64 k, .string p, .string t, .int .i64 off, .int .i64 n, .slice ao ds.length cap] ∧ Bytes W (.slice ao ds.length cap) ds ∧ (∀ a, ao = some a → ds ≠ [] → a.spot = none) ∧ ds.length ≤ cap ∧ cap ≤ maxLen ∧
    (Lit.int .i64 k).wf = true ∧ (Lit.int .i64 off).wf = true ∧ (Lit.int .i64 n).wf = true ∧ p.size ≤ maxLen ∧ t.size ≤ maxLen
theorem open_op_trod {W : World} {cs : List Value} {fuel : Nat} {x : DataW H × List MemPlace} (hf : DataW.trod enc Tryd.prog W 0 (fun _ => true) true fuel 35 cs = some x) :
    ∃ k off n p t ao cap ds, OpCells W cs k off n p t ao cap ds := by
  obtain ⟨xs, m, _, _, hlen, hxs, hfd⟩ := DataW.trod_struct Tryd.underlying35 hf
  rw [cellsOp] at hlen
  obtain ⟨c0, c1, c2, c3, c4, c5, rfl⟩ := six_of cs hlen
  obtain ⟨x0, x1, x2, x3, x4, x5, rfl⟩ := six_of xs hxs
  have f0 : DataW.trod enc Tryd.prog W 0 (fun _ => true) true m 3 [c0] = some x0 := by simpa [cellsInt] using hfd 0 _ rfl
  have f1 : DataW.trod enc Tryd.prog W 0 (fun _ => true) true m 9 [c1] = some x1 := by simpa [cellsStr] using hfd 1 _ rfl
  have f2 : DataW.trod enc Tryd.prog W 0 (fun _ => true) true m 9 [c2] = some x2 := by simpa [cellsStr] using hfd 2 _ rfl
  have f3 : DataW.trod enc Tryd.prog W 0 (fun _ => true) true m 3 [c3] = some x3 := by simpa [cellsInt] using hfd 3 _ rfl
  have f4 : DataW.trod enc Tryd.prog W 0 (fun _ => true) true m 3 [c4] = some x4 := by simpa [cellsInt] using hfd 4 _ rfl
  have f5 : DataW.trod enc Tryd.prog W 0 (fun _ => true) true m 33 [c5] = some x5 := by simpa [cellsSl] using hfd 5 _ rfl
  obtain ⟨z0, e0, _, w0⟩ := DataW.trod_int Tryd.underlying3 f0
  obtain ⟨s1, e1, _, l1⟩ := DataW.trod_string Tryd.underlying9 f1
  obtain ⟨s2, e2, _, l2⟩ := DataW.trod_string Tryd.underlying9 f2
  obtain ⟨z3, e3, _, w3⟩ := DataW.trod_int Tryd.underlying3 f3
  obtain ⟨z4, e4, _, w4⟩ := DataW.trod_int Tryd.underlying3 f4
  obtain ⟨bs, ao, cb, hv, hb, hl, hm, hsp⟩ := open_bytes_trod Tryd.underlying33 Tryd.underlying5 cellsU8 f5
  simp only [List.cons.injEq, and_true] at e0 e1 e2 e3 e4
  subst e0; subst e1; subst e2; subst e3; subst e4; subst hv
  exact ⟨z0, z3, z4, s1, s2, ao, cb, bs, rfl, hb, hsp, hl, hm, w0, w3, w4, l1, l2⟩

/-- The cells of an answer. -/
def AnsCells (W : World) (cs : List Value) (c n : Int) (ao no : Option Addr) (cap ncap : Nat) (ds : List UInt8) (ss : List ByteArray) : Prop :=
  cs = [.int .i64 c, .int .i64 n, .slice ao ds.length cap, .slice no ss.length ncap] ∧ Bytes W (.slice ao ds.length cap) ds ∧ (∀ a, ao = some a → ds ≠ [] → a.spot = none) ∧ ds.length ≤ cap ∧ cap ≤ maxLen ∧
    Strs W (.slice no ss.length ncap) ss ∧ ss.length ≤ ncap ∧ ncap ≤ maxLen ∧ (Lit.int .i64 c).wf = true ∧ (Lit.int .i64 n).wf = true ∧ ∀ s ∈ ss, s.size ≤ maxLen
theorem open_ans_trod {W : World} {cs : List Value} {fuel : Nat} {x : DataW H × List MemPlace} (hf : DataW.trod enc Tryd.prog W 0 (fun _ => true) true fuel 41 cs = some x) :
    ∃ c n ao no cap ncap ds ss, AnsCells W cs c n ao no cap ncap ds ss := by
  obtain ⟨xs, m, _, _, hlen, hxs, hfd⟩ := DataW.trod_struct Tryd.underlying41 hf
  rw [cellsAns] at hlen
  obtain ⟨c0, c1, c2, c3, rfl⟩ := four_of cs hlen
  obtain ⟨x0, x1, x2, x3, rfl⟩ := four_of xs hxs
  have f0 : DataW.trod enc Tryd.prog W 0 (fun _ => true) true m 38 [c0] = some x0 := by simpa [cellsErrno] using hfd 0 _ rfl
  have f1 : DataW.trod enc Tryd.prog W 0 (fun _ => true) true m 3 [c1] = some x1 := by simpa [cellsInt] using hfd 1 _ rfl
  have f2 : DataW.trod enc Tryd.prog W 0 (fun _ => true) true m 33 [c2] = some x2 := by simpa [cellsSl] using hfd 2 _ rfl
  have f3 : DataW.trod enc Tryd.prog W 0 (fun _ => true) true m 39 [c3] = some x3 := by simpa [cellsSs] using hfd 3 _ rfl
  obtain ⟨z0, e0, _, w0⟩ := DataW.trod_int Tryd.underlying38 f0
  obtain ⟨z1, e1, _, w1⟩ := DataW.trod_int Tryd.underlying3 f1
  obtain ⟨bs, ao, cb, hv, hb, hl, hm, hsp⟩ := open_bytes_trod Tryd.underlying33 Tryd.underlying5 cellsU8 f2
  obtain ⟨ss, no, nc, hv2, hs, hl2, hm2, hss⟩ := open_strs_trod Tryd.underlying39 Tryd.underlying9 cellsStr f3
  simp only [List.cons.injEq, and_true] at e0 e1
  subst e0; subst e1; subst hv; subst hv2
  exact ⟨z0, z1, ao, no, cb, nc, bs, ss, rfl, hb, hsp, hl, hm, hs, hl2, hm2, w0, w1, hss⟩

end Go.Proofs.YtafgiljgefeefaaDoor
