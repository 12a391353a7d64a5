/- Rows of pairs, and of kids, that a call makes one by one. -/
import Derived.Test.YtdeajjppmgfemaaNd1
import Derived.Test.YtdeajjppmgfemaaOst
import Derived.Test.YtdeajjppmgfemaaBase
namespace Go.Proofs.Ytdeajjppmgfemaa
open Go.RowKit
set_option linter.unusedVariables false

/-- A text of an element: it lies elsewhere than the row, in blocks from base on. -/
def TextFar (base : Nat) (row : Option Nat) (x : Value) (bs : List UInt8) : Prop := ∀ a n c, x = .slice (some a) n c → bs ≠ [] → a.spot = none ∧ row ≠ some a.block ∧ base ≤ a.block
theorem bytes_lt {w : World} {x : Addr} {n c : Nat} {bs : List UInt8} (hb : Bytes w (.slice (some x) n c) bs) (h0 : bs ≠ []) : x.block < w.heap.size := by
  rcases hb with ⟨a', c', h1, hc⟩ | ⟨c, h, _⟩
  · simp only [Value.slice.injEq, Option.some.injEq] at h1
    obtain ⟨rfl, _, _⟩ := h1
    cases bs with
    | nil => exact absurd rfl h0
    | cons b r =>
      have := World.block_lt_of_cell? w _ (hc 0 _ rfl)
      simpa [Addr.add] using this
  · simp at h
theorem bytes_keep {S : Nat → Prop} {base : Nat} {row : Option Nat} {w w' : World} {x : Value} {bs : List UInt8} (h : Bytes w x bs) (f : TextFar base row x bs) (k : Keeps S w w') (hs : ∀ j, S j → j < base) : Bytes w' x bs := by
  by_cases h0 : bs = []
  · subst h0
    rcases h with ⟨a, c, rfl, _⟩ | ⟨c, rfl, _⟩
    · exact .inl ⟨a, c, rfl, by simp [u8s]⟩
    · exact .inr ⟨c, rfl, rfl⟩
  · exact h.keeps k fun a n c e hS => by have := (f a n c e h0).2.2; have := hs _ hS; omega
theorem TextFar.grow {base g cap n : Nat} {out : Value} {x : Value} {bs : List UInt8} {wb : World} (f : TextFar base out.ownBlock x bs) (hb : Bytes wb x bs) (hat : out.ownBlock = some g ∨ wb.heap.size ≤ g) : TextFar base (Value.slice (some ⟨g, 0, none⟩) n cap).ownBlock x bs := fun a n' c e h0 => by
  obtain ⟨f1, f2, f3⟩ := f a n' c e h0
  refine ⟨f1, fun e2 => ?_, f3⟩
  simp only [Value.ownBlock, Option.some.injEq] at e2
  rcases hat with h1 | h1
  · exact f2 (by rw [h1, e2])
  · subst e; have := bytes_lt hb h0; omega

structure PRow (base : Nat) (w : World) (out : Value) (qs : List PairX) : Prop where
  own : w.ownsRow base 54 2 out qs.length (flat qs)
  bk : ∀ q ∈ qs, Bytes w q.kv q.ks ∧ Bytes w q.vv q.vs
  far : ∀ q ∈ qs, TextFar base out.ownBlock q.kv q.ks ∧ TextFar base out.ownBlock q.vv q.vs
theorem PRow.nil (base : Nat) (w : World) : PRow base w (.slice none 0 0) [] := ⟨World.ownsRow_nil _ _ _ _, fun _ h => by simp at h, fun _ h => by simp at h⟩
theorem PRow.keep {S : Nat → Prop} {base : Nat} {w w' : World} {out : Value} {qs : List PairX} (h : PRow base w out qs) (k : Keeps S w w') (hs : ∀ j, S j → j < base) : PRow base w' out qs :=
  ⟨own_keeps k h.own (fun j e e2 => by have := (h.own.lt j e).1; have := hs _ e2; omega), fun q hq => ⟨bytes_keep (h.bk q hq).1 (h.far q hq).1 k hs, bytes_keep (h.bk q hq).2 (h.far q hq).2 k hs⟩, h.far⟩
theorem PRow.same {base : Nat} {w w' : World} {out : Value} {qs : List PairX} (h : PRow base w out qs) (k : Same w w') : PRow base w' out qs := h.keep k (fun _ e => e.elim)
theorem PRow.step {base : Nat} {wb w9 : World} {out : Value} {qs : List PairX} {g cap : Nat} (p : PairX) (h : PRow base wb out qs) (hk : Bytes wb p.kv p.ks) (hv : Bytes wb p.vv p.vs) (fk : TextFar base out.ownBlock p.kv p.ks) (fv : TextFar base out.ownBlock p.vv p.vs)
    (hown : w9.ownsRow base 54 2 (.slice (some ⟨g, 0, none⟩) (qs.length + 1) cap) (qs.length + 1) (flat qs ++ [p.kv, p.vv])) (hg : wb.grownBy w9 out.ownBlock) (hat : out.ownBlock = some g ∨ wb.heap.size ≤ g) :
    PRow base w9 (.slice (some ⟨g, 0, none⟩) (qs.length + 1) cap) (qs ++ [p]) := by
  have key : ∀ {x : Value} {bs : List UInt8}, Bytes wb x bs → TextFar base out.ownBlock x bs → Bytes w9 x bs := fun hb f => bytes_grown hb hg fun a n c e h0 => (f a n c e h0).2.1
  refine ⟨?_, fun q hq => ?_, fun q hq => ?_⟩
  · have e1 : flat (qs ++ [p]) = flat qs ++ [p.kv, p.vv] := by simp [flat]
    rw [e1, List.length_append]; exact hown
  · rcases List.mem_append.1 hq with hq | hq
    · exact ⟨key (h.bk q hq).1 (h.far q hq).1, key (h.bk q hq).2 (h.far q hq).2⟩
    · rw [List.mem_singleton] at hq; subst hq; exact ⟨key hk fk, key hv fv⟩
  · rcases List.mem_append.1 hq with hq | hq
    · exact ⟨(h.far q hq).1.grow (h.bk q hq).1 hat, (h.far q hq).2.grow (h.bk q hq).2 hat⟩
    · rw [List.mem_singleton] at hq; subst hq; exact ⟨fk.grow hk hat, fv.grow hv hat⟩
theorem PRow.pairs {base : Nat} {w : World} {out : Value} {qs : List PairX} (h : PRow base w out qs) : ∃ ao cap, out = .slice ao qs.length cap ∧ Pairs w ao qs ∧ qs.length ≤ cap := by
  rcases h.own.2 with ⟨rfl, h0⟩ | ⟨g, cap, cur, rfl, hb, hg, hn, _⟩
  · have : qs = [] := List.length_eq_zero_iff.1 h0
    exact ⟨none, 0, by rw [h0], .inl this, by omega⟩
  · refine ⟨_, cap, rfl, .inr ⟨g, 0, rfl, fun j hj => ?_⟩, hn⟩
    obtain ⟨f1, f2⟩ := flat_get qs j hj
    have c1 := h.own.cells rfl _ _ f1
    have c2 := h.own.cells rfl _ _ f2
    rw [add_at] at c1 c2
    have hm : qs[j] ∈ qs := List.getElem_mem hj
    exact ⟨c1, by rw [Nat.add_assoc]; exact c2, (h.bk _ hm).1, (h.bk _ hm).2, fun a n c e h0 => ((h.far _ hm).1 a n c e h0).1, fun a n c e h0 => ((h.far _ hm).2 a n c e h0).1⟩

structure KRow (base : Nat) (w : World) (out : Value) (qs : List KidX) : Prop where
  own : w.ownsRow base 46 33 out qs.length (kflat qs)
  bk : ∀ q ∈ qs, Bytes w q.fv q.fs
  far : ∀ q ∈ qs, TextFar base out.ownBlock q.fv q.fs
  hl : ∀ q ∈ qs, q.hs.length = 32
theorem KRow.nil (base : Nat) (w : World) : KRow base w (.slice none 0 0) [] := ⟨World.ownsRow_nil _ _ _ _, fun _ h => by simp at h, fun _ h => by simp at h, fun _ h => by simp at h⟩
theorem KRow.keep {S : Nat → Prop} {base : Nat} {w w' : World} {out : Value} {qs : List KidX} (h : KRow base w out qs) (k : Keeps S w w') (hs : ∀ j, S j → j < base) : KRow base w' out qs :=
  ⟨own_keeps k h.own (fun j e e2 => by have := (h.own.lt j e).1; have := hs _ e2; omega), fun q hq => bytes_keep (h.bk q hq) (h.far q hq) k hs, h.far, h.hl⟩
theorem KRow.same {base : Nat} {w w' : World} {out : Value} {qs : List KidX} (h : KRow base w out qs) (k : Same w w') : KRow base w' out qs := h.keep k (fun _ e => e.elim)
theorem KRow.step {base : Nat} {wb w9 : World} {out : Value} {qs : List KidX} {g cap : Nat} (p : KidX) (h : KRow base wb out qs) (hk : Bytes wb p.fv p.fs) (fk : TextFar base out.ownBlock p.fv p.fs) (hp : p.hs.length = 32)
    (hown : w9.ownsRow base 46 33 (.slice (some ⟨g, 0, none⟩) (qs.length + 1) cap) (qs.length + 1) (kflat qs ++ p.cells)) (hg : wb.grownBy w9 out.ownBlock) (hat : out.ownBlock = some g ∨ wb.heap.size ≤ g) :
    KRow base w9 (.slice (some ⟨g, 0, none⟩) (qs.length + 1) cap) (qs ++ [p]) := by
  have key : ∀ {x : Value} {bs : List UInt8}, Bytes wb x bs → TextFar base out.ownBlock x bs → Bytes w9 x bs := fun hb f => bytes_grown hb hg fun a n c e h0 => (f a n c e h0).2.1
  refine ⟨?_, fun q hq => ?_, fun q hq => ?_, fun q hq => ?_⟩
  · have e1 : kflat (qs ++ [p]) = kflat qs ++ p.cells := by simp [kflat]
    rw [e1, List.length_append]; exact hown
  · rcases List.mem_append.1 hq with hq | hq
    · exact key (h.bk q hq) (h.far q hq)
    · rw [List.mem_singleton] at hq; subst hq; exact key hk fk
  · rcases List.mem_append.1 hq with hq | hq
    · exact (h.far q hq).grow (h.bk q hq) hat
    · rw [List.mem_singleton] at hq; subst hq; exact fk.grow hk hat
  · rcases List.mem_append.1 hq with hq | hq
    · exact h.hl q hq
    · rw [List.mem_singleton] at hq; subst hq; exact hp
theorem KRow.kids {base : Nat} {w : World} {out : Value} {qs : List KidX} (h : KRow base w out qs) : ∃ ao cap, out = .slice ao qs.length cap ∧ Kids w ao qs ∧ qs.length ≤ cap := by
  rcases h.own.2 with ⟨rfl, h0⟩ | ⟨g, cap, cur, rfl, hb, hg, hn, _⟩
  · have : qs = [] := List.length_eq_zero_iff.1 h0
    exact ⟨none, 0, by rw [h0], .inl this, by omega⟩
  · refine ⟨_, cap, rfl, .inr ⟨g, 0, rfl, fun j hj => ?_⟩, hn⟩
    have hm : qs[j] ∈ qs := List.getElem_mem hj
    refine ⟨fun i v hv => ?_, h.bk _ hm, fun a n c e h0 => (h.far _ hm a n c e h0).1, h.hl _ hm⟩
    have c1 := h.own.cells rfl _ _ (kflat_get qs h.hl j hj i v hv)
    rw [add_at] at c1
    rw [Nat.zero_add] at c1 ⊢
    exact c1
theorem Try.infoPairR : (Try.prog.info? 54).map (fun i => (i.zero, i.size, i.bytes)) = some (some (.agg #[.slice none 0 0, .slice none 0 0]), 2, 48) := by kernel_rfl
theorem Try.infoKidR : (Try.prog.info? 46).map (fun i => (i.zero, i.size, i.bytes)) = some (some (.agg (Value.slice none 0 0 :: u8s (List.replicate 32 0)).toArray), 33, 56) := by kernel_rfl
end Go.Proofs.Ytdeajjppmgfemaa
