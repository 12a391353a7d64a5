/- Worlds: what stays as it was, bytes as cells, a struct of one slice field that owns its row. No program is named here. -/
import Derived.WalkKit
import Derived.OneCell
import Derived.WalkSmall
import Derived.Deep.AppendLies
namespace Go.Proofs.YtafgiljgefeefaaDoor
open Go.RowKit

/-- Bytes as the cells of a row. -/
def u8s (bs : List UInt8) : List Value := bs.map fun b => Value.int .u8 (b.toNat : Int)
theorem u8s_length (bs : List UInt8) : (u8s bs).length = bs.length := by simp [u8s]
theorem u8s_append (a b : List UInt8) : u8s (a ++ b) = u8s a ++ u8s b := by simp [u8s]
theorem u8s_nil : u8s [] = [] := rfl
theorem u8s_one (b : UInt8) : u8s [b] = [.int .u8 (b.toNat : Int)] := rfl
theorem u8s_cell (bs : List UInt8) : ∀ u ∈ u8s bs, u.oneCell' = true := by
  intro u hu; simp [u8s] at hu; obtain ⟨_, _, rfl⟩ := hu; rfl
theorem u8s_get (bs : List UInt8) (j : Nat) (h : j < bs.length) : (u8s bs)[j]? = some (.int .u8 ((bs.getD j 0).toNat : Int)) := by
  simp [u8s, h]

/-- w' is as w was, but for new blocks and for the blocks in S. -/
structure Keeps (S : Nat → Prop) (w w' : World) : Prop where
  os : w'.os = w.os
  tape : w'.tape = w.tape
  output : w'.output = w.output
  size : w.heap.size ≤ w'.heap.size
  block : ∀ k, k < w.heap.size → ¬ S k → w'.heap[k]? = w.heap[k]?

theorem Keeps.refl (S : Nat → Prop) (w : World) : Keeps S w w := ⟨rfl, rfl, rfl, Nat.le_refl _, fun _ _ _ => rfl⟩
theorem Keeps.trans {S S' : Nat → Prop} {a b c : World} (h : Keeps S a b) (k : Keeps S' b c) (hs : ∀ j, j < a.heap.size → S' j → S j) : Keeps S a c :=
  ⟨k.os.trans h.os, k.tape.trans h.tape, k.output.trans h.output, Nat.le_trans h.size k.size, fun j hj hn =>
    (k.block j (Nat.lt_of_lt_of_le hj h.size) (fun e => hn (hs j hj e))).trans (h.block j hj hn)⟩
theorem Keeps.mono {S S' : Nat → Prop} {a b : World} (h : Keeps S a b) (hs : ∀ j, j < a.heap.size → S j → S' j) : Keeps S' a b :=
  ⟨h.os, h.tape, h.output, h.size, fun j hj hn => h.block j hj (fun e => hn (hs j hj e))⟩
theorem Keeps.alloc {S : Nat → Prop} {a w : World} (h : Keeps S a w) (o : Obj) : Keeps S a (w.alloc o) :=
  ⟨h.os, h.tape, h.output, by have := h.size; simp; omega, fun k hk hn => (Below.heap_alloc w o k (Nat.lt_of_lt_of_le hk h.size)).trans (h.block k hk hn)⟩
theorem Keeps.drew {S : Nat → Prop} {a w : World} (h : Keeps S a w) : Keeps S a w.drew := ⟨h.os, h.tape, h.output, h.size, h.block⟩
theorem Keeps.drewN {S : Nat → Prop} {a w : World} (h : Keeps S a w) (n : Nat) : Keeps S a (w.drewN n) := ⟨h.os, h.tape, h.output, h.size, h.block⟩
theorem Keeps.setCell {S : Nat → Prop} {a w : World} (h : Keeps S a w) (p : Addr) (u : Value) (hp : a.heap.size ≤ p.block ∨ S p.block) : Keeps S a (w.setCell p u) :=
  ⟨h.os, h.tape, h.output, by have := h.size; simpa [World.setCell] using this, fun k hk hn =>
    (Below.heap_setCell w p u k (by rintro rfl; rcases hp with hp | hp; · omega
                                    · exact hn hp)).trans (h.block k hk hn)⟩
theorem Keeps.grown {S : Nat → Prop} {a w w' : World} {row : Option Nat} (h : Keeps S a w) (hg : w.grownBy w' row) (hr : ∀ k, row = some k → k < a.heap.size → S k) : Keeps S a w' :=
  ⟨hg.os.trans h.os, hg.tape.trans h.tape, hg.output.trans h.output, Nat.le_trans h.size hg.size, fun k hk hn =>
    (hg.block k (Nat.lt_of_lt_of_le hk h.size) (fun e => hn (hr k e.symm hk))).trans (h.block k hk hn)⟩
theorem Keeps.below {S : Nat → Prop} {a w : World} (h : Keeps S a w) (B : Nat) (hB : B ≤ a.heap.size) (hs : ∀ k, k < B → ¬ S k) : Below B a w :=
  ⟨h.os, h.tape, h.output, h.size, fun k hk => h.block k (Nat.lt_of_lt_of_le hk hB) (hs k hk)⟩
theorem Keeps.of_below {B : Nat} {a w : World} (h : Below B a w) : Keeps (fun k => B ≤ k) a w := ⟨h.os, h.tape, h.output, h.size, fun k _ hn => h.block k (by omega)⟩
/-- Nothing that was there has changed. -/
abbrev Same (w w' : World) : Prop := Keeps (fun _ => False) w w'
theorem Same.any {S : Nat → Prop} {a b : World} (h : Same a b) : Keeps S a b := h.mono fun _ _ e => e.elim
theorem Same.below {a b : World} (h : Same a b) : Below a.heap.size a b := Keeps.below h _ (Nat.le_refl _) fun _ _ e => e

theorem Keeps.obj {S : Nat → Prop} {a b : World} (h : Keeps S a b) {k : Nat} {o : Obj} (hk : a.heap[k]? = some o) (hn : ¬ S k) : b.heap[k]? = some o :=
  (h.block k (lt_of_block hk) hn).trans hk

theorem cell_of_four {w : World} {b : Nat} {v0 v1 v2 v3 : Value} {t : TypeId} (h : w.heap[b]? = some (.cells #[v0, v1, v2, v3] t (0, 0))) :
    w.cell? ⟨b, 0, none⟩ = some v0 ∧ w.cell? ⟨b, 1, none⟩ = some v1 ∧ w.cell? ⟨b, 2, none⟩ = some v2 ∧ w.cell? ⟨b, 3, none⟩ = some v3 := by simp [World.cell?, h]
/-- A store of what lies there already. -/
theorem setCell_same {w : World} {b : Nat} {v : Value} {t : TypeId} (h : w.heap[b]? = some (.cells #[v] t (0, 0))) : w.setCell ⟨b, 0, none⟩ v = w := by
  have hlt := lt_of_block h
  have hx : w.heap.modify b (fun | .cells c elem frozen => .cells (if (none : Option (Nat × Nat)).isSome then c else c.setIfInBounds 0 v) elem frozen | o => o) = w.heap := by
    apply Array.ext (by simp)
    intro i h1 h2
    rw [Array.getElem_modify]
    split
    · next e =>
      subst e
      have := (Array.getElem?_eq_some_iff.1 h).2
      rw [this]; simp
    · rfl
  cases w
  simp only [World.setCell, World.mk.injEq, and_true]
  exact hx

/-- An owned row stays, where its block does. -/
theorem own_keeps {S : Nat → Prop} {w w' : World} (h : Keeps S w w') {base : Nat} {e : TypeId} {size : Nat} {v : Value} {n : Nat} {xs : List Value} (ho : w.ownsRow base e size v n xs) (hn : ∀ k, v.ownBlock = some k → ¬ S k) : w'.ownsRow base e size v n xs := by
  refine ⟨ho.1, ?_⟩
  rcases ho.2 with hv | ⟨g, cap, cur, rfl, hb, hg, rest⟩
  · exact .inl hv
  · exact .inr ⟨g, cap, cur, rfl, hb, h.obj hg (hn g rfl), rest⟩
theorem own_base {w : World} {base base' : Nat} {e : TypeId} {size : Nat} {v : Value} {n : Nat} {xs : List Value} (ho : w.ownsRow base e size v n xs) (hb : base' ≤ base) : w.ownsRow base' e size v n xs := by
  refine ⟨ho.1, ?_⟩
  rcases ho.2 with hv | ⟨g, cap, cur, rfl, hb', rest⟩
  · exact .inl hv
  · exact .inr ⟨g, cap, cur, rfl, by omega, rest⟩

/-- Block B is a struct (type T) of one slice (elements E, one cell each) that owns the row 'row' with the bytes bs. -/
structure Pen (T E : TypeId) (w : World) (B base : Nat) (row : Option Nat) (bs : List UInt8) : Prop where
  ex : ∃ v, v.ownBlock = row ∧ w.heap[B]? = some (.cells #[v] T (0, 0)) ∧ w.ownsRow base E 1 v bs.length (u8s bs)
  lt : B < base
  hb : base ≤ w.heap.size

theorem Pen.keeps {T E : TypeId} {w w' : World} {B base : Nat} {row : Option Nat} {bs : List UInt8} (h : Pen T E w B base row bs) {S : Nat → Prop} (k : Keeps S w w') (hB : ¬ S B) (hr : ∀ j, row = some j → ¬ S j) : Pen T E w' B base row bs := by
  obtain ⟨v, hv, h1, h2⟩ := h.ex
  exact ⟨⟨v, hv, k.obj h1 hB, own_keeps k h2 (fun j hj => hr j (hv ▸ hj))⟩, h.lt, Nat.le_trans h.hb k.size⟩
theorem Pen.row_lt {T E : TypeId} {w : World} {B base : Nat} {row : Option Nat} {bs : List UInt8} (h : Pen T E w B base row bs) : ∀ j, row = some j → base ≤ j ∧ j < w.heap.size := by
  obtain ⟨v, hv, h1, h2⟩ := h.ex
  intro j hj
  exact h2.lt j (hv.trans hj)
/-- A new struct. -/
theorem Pen.new (T E : TypeId) (w : World) : Pen T E (w.alloc (.cells #[.slice none 0 0] T)) w.heap.size (w.heap.size + 1) none [] :=
  ⟨⟨_, rfl, heap_alloc_new w _, World.ownsRow_nil _ _ _ _⟩, by omega, by simp⟩

theorem Pen.new2 (T E : TypeId) (w : World) (o : Obj) : Pen T E ((w.alloc (.cells #[.slice none 0 0] T)).alloc o) w.heap.size (w.heap.size + 1 + 1) none [] :=
  ⟨⟨_, rfl, ((Keeps.refl (fun _ => False) _).alloc o).obj (heap_alloc_new w _) (fun e => e), World.ownsRow_nil _ _ _ _⟩, by omega, by simp⟩
theorem Pen.newAt (T E : TypeId) (w : World) (o : Obj) : Pen T E ((w.alloc o).alloc (.cells #[.slice none 0 0] T)) (w.heap.size + 1) (w.heap.size + 1 + 1) none [] :=
  ⟨⟨_, rfl, by have := heap_alloc_new (w.alloc o) (.cells #[.slice none 0 0] T); simpa using this, World.ownsRow_nil _ _ _ _⟩, by omega, by simp⟩

/-- What becomes of a pen's row: it stays, or it is a new one. -/
def Moves (w : World) (row row' : Option Nat) : Prop := row' = row ∨ ∃ g, row' = some g ∧ w.heap.size ≤ g
theorem Moves.refl (w : World) (row : Option Nat) : Moves w row row := .inl rfl
theorem Moves.trans {w w' : World} {a b c : Option Nat} (h : Moves w a b) (k : Moves w' b c) (hs : w.heap.size ≤ w'.heap.size) : Moves w a c := by
  rcases k with rfl | ⟨g, rfl, hg⟩
  · exact h
  · exact .inr ⟨g, rfl, by omega⟩
/-- What a call on a pen may change: the struct's block and its row. -/
def PenSet (B : Nat) (row : Option Nat) : Nat → Prop := fun k => k = B ∨ row = some k
theorem notPen {B j : Nat} {row : Option Nat} (h1 : j ≠ B) (h2 : row ≠ some j) : ¬ PenSet B row j := by
  rintro (e | e)
  · exact h1 e
  · exact h2 e
theorem PenSet.moves {w : World} {B : Nat} {row row' : Option Nat} (h : Moves w row row') : ∀ j, j < w.heap.size → PenSet B row' j → PenSet B row j := by
  intro j hj e
  rcases e with e | e
  · exact .inl e
  · rcases h with rfl | ⟨g, rfl, hg⟩
    · exact .inr e
    · simp at e; omega

/-- A step of a pen: more bytes, all else as it was. -/
structure Step (T E : TypeId) (w w' : World) (B base : Nat) (row : Option Nat) (bs more : List UInt8) : Prop where
  ex : ∃ row', Pen T E w' B base row' (bs ++ more) ∧ Keeps (PenSet B row) w w' ∧ Moves w row row'
theorem Step.nothing {T E : TypeId} {w w' : World} {B base : Nat} {row : Option Nat} {bs : List UInt8} (h : Pen T E w B base row bs) (k : Same w w') : Step T E w w' B base row bs [] :=
  ⟨row, by rw [List.append_nil]; exact h.keeps k (fun e => e) (fun _ _ e => e), k.any, Moves.refl _ _⟩
theorem Step.more {T E : TypeId} {w w1 w2 : World} {B base : Nat} {row : Option Nat} {bs a b : List UInt8} (h : Step T E w w1 B base row bs a)
    (k : ∀ row', Pen T E w1 B base row' (bs ++ a) → Step T E w1 w2 B base row' (bs ++ a) b) : Step T E w w2 B base row bs (a ++ b) := by
  obtain ⟨r1, p1, k1, m1⟩ := h.ex
  obtain ⟨r2, p2, k2, m2⟩ := (k r1 p1).ex
  exact ⟨r2, by rw [← List.append_assoc]; exact p2, k1.trans k2 (PenSet.moves m1), m1.trans m2 k1.size⟩
theorem Step.cont {T E : TypeId} {w w1 w2 : World} {B base : Nat} {row row1 : Option Nat} {bs bs1 a b c : List UInt8} (k1 : Keeps (PenSet B row) w w1) (m1 : Moves w row row1) (h : Step T E w1 w2 B base row1 bs1 b)
    (h1 : bs ++ a = bs1) (h2 : a ++ b = c) : Step T E w w2 B base row bs c := by
  obtain ⟨r2, p2, k2, m2⟩ := h.ex
  subst h1; subst h2
  exact ⟨r2, by rw [← List.append_assoc]; exact p2, k1.trans k2 (PenSet.moves m1), m1.trans m2 k1.size⟩
/-- The append of news onto a pen's slice, and the store behind it. -/
theorem Step.append {T E : TypeId} {w wa w1 : World} {B base : Nat} {row : Option Nat} {bs more : List UInt8} {g cap : Nat} (h : Pen T E w B base row bs) (k : Same w wa)
    (hown : w1.ownsRow base E 1 (.slice (some ⟨g, 0, none⟩) (bs.length + more.length) cap) (bs.length + more.length) (u8s bs ++ u8s more)) (hg : wa.grownBy w1 row)
    (hat : row = some g ∨ w.heap.size ≤ g) :
    Step T E w (w1.setCell ⟨B, 0, none⟩ (.slice (some ⟨g, 0, none⟩) (bs.length + more.length) cap)) B base row bs more := by
  obtain ⟨v, hv, h1, h2⟩ := h.ex
  have hB := lt_of_block h1
  have hrow : row ≠ some B := by
    rintro rfl; have := (h.row_lt B rfl).1; have := h.lt; omega
  have hB1 : w1.heap[B]? = some (.cells #[v] T (0, 0)) :=
    (hg.block B (Nat.lt_of_lt_of_le hB k.size) (fun e => hrow e.symm)).trans (k.obj h1 (fun e => e))
  have hgB : g ≠ B := by
    rintro rfl
    rcases hat with e | e
    · exact hrow e
    · omega
  refine ⟨some g, ⟨⟨_, rfl, one_setCell hB1, ?_⟩, h.lt, ?_⟩, ?_, ?_⟩
  · rw [List.length_append, u8s_append]
    exact ownsRow_setCell_other hown (by simp [Value.ownBlock, hgB]) _
  · have := h.hb; have := k.size; have := hg.size; simp [World.setCell]; omega
  · refine ((k.any (S := PenSet B row)).grown hg (fun j hj _ => .inr hj)).setCell _ _ (.inr (.inl rfl))
  · rcases hat with e | e
    · exact .inl e.symm
    · exact .inr ⟨g, rfl, e⟩

end Go.Proofs.YtafgiljgefeefaaDoor
