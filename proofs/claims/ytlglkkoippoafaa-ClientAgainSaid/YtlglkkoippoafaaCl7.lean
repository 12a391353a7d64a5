/- Operations and messages out of arguments. -/
import Derived.Test.YtlglkkoippoafaaCl6
import Derived.Test.YtlglkkoippoafaaWm10
namespace Go.Proofs.Ytlglkkoippoafaa
open Go.ChangeShapes Go.WideShapes Go.ChangeAt Go.RowKit Go.Deep
set_option linter.unusedVariables false

structure OpX where
  k : Int
  off : Int
  n : Int
  p : ByteArray
  t : ByteArray
  xo : Option Addr
  xc : Nat
  ds : List UInt8
def OpX.val (o : OpX) : Value := .slice o.xo o.ds.length o.xc
def OpX.cells (o : OpX) : List Value := opL o.k o.off o.n o.p o.t o.val
def OpsAt (w : World) (ao : Option Addr) (os : List OpX) : Prop := os = [] ∨ ∃ g off, ao = some ⟨g, off, none⟩ ∧ ∀ j (h : j < os.length), w.rangeAt g (off + j * 6) os[j].cells ∧ Reads w os[j].val os[j].ds
def MsgsAt (w : World) (ao : Option Addr) (ms : List Msg) : Prop := ms = [] ∨ ∃ g off, ao = some ⟨g, off, none⟩ ∧ ∀ j (h : j < ms.length), w.rangeAt g (off + j * 53) ms[j].cells ∧ MsgIn w ms[j]
theorem OpsAt.at {w : World} {ao : Option Addr} {os : List OpX} (h : OpsAt w ao os) {j : Nat} (hj : j < os.length) : ∃ g off, ao = some ⟨g, off, none⟩ ∧ w.rangeAt g (off + j * 6) os[j].cells ∧ Reads w os[j].val os[j].ds := by
  rcases h with h | ⟨g, off, e, h⟩
  · subst h; simp at hj
  · exact ⟨g, off, e, h j hj⟩
theorem MsgsAt.at {w : World} {ao : Option Addr} {ms : List Msg} (h : MsgsAt w ao ms) {j : Nat} (hj : j < ms.length) : ∃ g off, ao = some ⟨g, off, none⟩ ∧ w.rangeAt g (off + j * 53) ms[j].cells ∧ MsgIn w ms[j] := by
  rcases h with h | ⟨g, off, e, h⟩
  · subst h; simp at hj
  · exact ⟨g, off, e, h j hj⟩
theorem reads_low {w : World} {ao : Option Addr} {n c : Nat} {ds : List UInt8} (h : Reads w (.slice ao n c) ds) : ∀ a, ao = some a → ds ≠ [] → a.block < w.heap.size := fun a e h0 => by
  obtain ⟨_, _, _, h1, _⟩ := h
  rw [e] at h1
  exact h1.lt h0
theorem MsgIn.off {w : World} {m : Msg} {B : Nat} (h : MsgIn w m) (hB : w.heap.size ≤ B) : m.Off B := by
  refine ⟨fun a e h0 => by have := reads_low h.ra a e h0; omega, fun a e h0 => ?_⟩
  rcases h.ns with ⟨a', c', e1, hc⟩ | ⟨c', e1, h1⟩
  · simp only [Value.slice.injEq] at e1
    obtain ⟨e2, _, _⟩ := e1
    rw [e] at e2
    simp only [Option.some.injEq] at e2
    subst e2
    cases hn : m.ns with
    | nil => exact absurd hn h0
    | cons s r =>
      have h2 := World.block_lt_of_cell? w _ (hc 0 s (by rw [hn]; rfl))
      have h3 : (a.add 0).block = a.block := by unfold Addr.add; split <;> rfl
      omega
  · exact absurd h1 h0

variable {H : Type} {enc : TypeId × Value → H}
theorem open_msgs_trod {W : World} {v : Value} {fuel : Nat} {x : DataW H × List MemPlace} (hf : DataW.trod enc Try.prog W 0 (fun _ => true) true fuel 55 [v] = some x) :
    ∃ ao cap ms, v = .slice ao ms.length cap ∧ MsgsAt W ao ms ∧ ms.length ≤ cap ∧ cap ≤ maxLen := by
  rcases open_slice Try.underlying55 hf with ⟨hcs, _⟩ | ⟨a, len, cap, m, n, DD, PP, hcs, _, hl, hm, hmm, _, hx⟩
  · simp only [List.cons.injEq, and_true] at hcs
    subst hcs
    exact ⟨none, 0, [], rfl, .inl rfl, Nat.le_refl _, by unfold maxLen; omega⟩
  · simp only [List.cons.injEq, and_true] at hcs
    subst hcs
    simp only [if_true] at hmm
    subst hmm
    have each : ∀ i, i < len → ∃ k : Msg, MsgIn W k ∧ ∀ j u, k.cells[j]? = some u → W.cell? (a.add (i * 53 + j)) = some u := by
      intro i hi
      obtain ⟨cs', k1, k2⟩ := hx i (by omega)
      rw [wm_cellsMsg] at k1
      obtain ⟨k, h1, rfl⟩ := open_msg_trod k2
      obtain ⟨_, hlen, hcell⟩ := World.cells?_some k1
      refine ⟨k, h1, fun j u hu => ?_⟩
      have hj := (List.getElem?_eq_some_iff.1 hu).1
      rw [k.cells_length h1.hd] at hj
      have := hcell j (by omega)
      rw [wm_add_add] at this
      rw [this]
      obtain ⟨h3, h4⟩ := List.getElem?_eq_some_iff.1 hu
      rw [← h4]
      simp
    obtain ⟨f, hfn⟩ := choose_rows fetchZ each
    refine ⟨some a, _, (List.range len).map f, by rw [List.length_map, List.length_range], ?_, by simp; omega, hm⟩
    by_cases hz : len = 0
    · subst hz; exact .inl rfl
    · have hsp : a.spot = none := by
        have h := (hfn 0 (by omega)).2 0 _ rfl
        have ha : a.add (0 * 53 + 0) = a := rfl
        rw [ha] at h
        cases hs : a.spot with
        | none => rfl
        | some s =>
          simp only [World.cell?, hs] at h
          split at h <;> simp at h
      obtain ⟨g, off, spot⟩ := a
      simp only at hsp
      subst hsp
      refine .inr ⟨g, off, rfl, fun j hj => ?_⟩
      have hj' : j < len := by simpa using hj
      obtain ⟨q1, q4⟩ := hfn j hj'
      have e1 : ((List.range len).map f)[j] = f j := by simp
      rw [e1]
      refine ⟨fun i u hu => ?_, q1⟩
      have := q4 i u hu
      rw [add_at] at this
      rwa [Nat.add_assoc]
theorem open_opsX_trod {W : World} {v : Value} {fuel : Nat} {x : DataW H × List MemPlace} (hf : DataW.trod enc Try.prog W 0 (fun _ => true) true fuel 62 [v] = some x) :
    ∃ ao cap os, v = .slice ao os.length cap ∧ OpsAt W ao os ∧ os.length ≤ cap ∧ cap ≤ maxLen := by
  rcases open_slice Try.underlying62 hf with ⟨hcs, _⟩ | ⟨a, len, cap, m, n, DD, PP, hcs, _, hl, hm, hmm, _, hx⟩
  · simp only [List.cons.injEq, and_true] at hcs
    subst hcs
    exact ⟨none, 0, [], rfl, .inl rfl, Nat.le_refl _, by unfold maxLen; omega⟩
  · simp only [List.cons.injEq, and_true] at hcs
    subst hcs
    simp only [if_true] at hmm
    subst hmm
    have each : ∀ i, i < len → ∃ o : OpX, Reads W o.val o.ds ∧ ∀ j u, o.cells[j]? = some u → W.cell? (a.add (i * 6 + j)) = some u := by
      intro i hi
      obtain ⟨cs', k1, k2⟩ := hx i (by omega)
      rw [cellsOp] at k1
      obtain ⟨k, off, n, p, t, xo, xc, ds, hcs2, hb, hsp, hc, _⟩ := open_op_trod k2
      subst hcs2
      obtain ⟨_, hlen, hcell⟩ := World.cells?_some k1
      refine ⟨⟨k, off, n, p, t, xo, xc, ds⟩, ⟨xo, xc, rfl, hb, hsp, hc⟩, fun j u hu => ?_⟩
      have hj : j < 6 := (List.getElem?_eq_some_iff.1 hu).1
      have := hcell j (by omega)
      rw [wm_add_add] at this
      rw [this]
      obtain ⟨h3, h4⟩ := List.getElem?_eq_some_iff.1 hu
      rw [← h4]
      simp [OpX.cells, opL, OpX.val]
    obtain ⟨f, hfn⟩ := choose_rows (⟨0, 0, 0, ⟨#[]⟩, ⟨#[]⟩, none, 0, []⟩ : OpX) each
    refine ⟨some a, _, (List.range len).map f, by rw [List.length_map, List.length_range], ?_, by simp; omega, hm⟩
    by_cases hz : len = 0
    · subst hz; exact .inl rfl
    · have hsp : a.spot = none := by
        have h := (hfn 0 (by omega)).2 0 _ rfl
        have ha : a.add (0 * 6 + 0) = a := rfl
        rw [ha] at h
        cases hs : a.spot with
        | none => rfl
        | some s =>
          simp only [World.cell?, hs] at h
          split at h <;> simp at h
      obtain ⟨g, off, spot⟩ := a
      simp only at hsp
      subst hsp
      refine .inr ⟨g, off, rfl, fun j hj => ?_⟩
      have hj' : j < len := by simpa using hj
      obtain ⟨q1, q4⟩ := hfn j hj'
      have e1 : ((List.range len).map f)[j] = f j := by simp
      rw [e1]
      refine ⟨fun i u hu => ?_, q1⟩
      have := q4 i u hu
      rw [add_at] at this
      rwa [Nat.add_assoc]
theorem open_msgs {W : World} {base : Nat} {v : Value} {d : DataW H} {ps : List MemPlace} (hok : Value.okWide Try.prog W .any base 55 v) (h : DataW.Trod enc Try.prog W 0 (fun _ => true) true 55 v d ps) :
    ∃ ao cap ms, v = .slice ao ms.length cap ∧ MsgsAt W ao ms ∧ ms.length ≤ cap ∧ cap ≤ maxLen := by
  obtain ⟨a0, len0, cap0, rfl⟩ := okWide_slice Try.underlying55 hok
  obtain ⟨fuel, hf⟩ := h
  exact open_msgs_trod (by simpa [Value.cells] using hf)
theorem open_opsX {W : World} {base : Nat} {v : Value} {d : DataW H} {ps : List MemPlace} (hok : Value.okWide Try.prog W .any base 62 v) (h : DataW.Trod enc Try.prog W 0 (fun _ => true) true 62 v d ps) :
    ∃ ao cap os, v = .slice ao os.length cap ∧ OpsAt W ao os ∧ os.length ≤ cap ∧ cap ≤ maxLen := by
  obtain ⟨a0, len0, cap0, rfl⟩ := okWide_slice Try.underlying62 hok
  obtain ⟨fuel, hf⟩ := h
  exact open_opsX_trod (by simpa [Value.cells] using hf)
end Go.Proofs.Ytlglkkoippoafaa
