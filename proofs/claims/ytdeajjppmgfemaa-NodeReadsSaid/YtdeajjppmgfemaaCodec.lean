/- Things written one behind the other, and read again. No program is named here. -/
import Derived.Test.YtdeajjppmgfemaaRd
namespace Go.Proofs.Ytdeajjppmgfemaa
set_option linter.unusedVariables false

/-- How a thing is written, and read at a place. -/
structure Codec (α : Type) where
  enc : α → List UInt8
  part : List UInt8 → Nat → Option (α × Nat)
  ok : α → Prop
  fit : ∀ (bs : List UInt8) (i : Nat) (x : α) (r : List UInt8), bs.drop i = enc x ++ r → i ≤ bs.length → ok x → part bs i = some (x, i + (enc x).length)
  split : ∀ (bs : List UInt8) (i : Nat) (x : α) (j : Nat), part bs i = some (x, j) → bs.drop i = enc x ++ bs.drop j ∧ i ≤ j ∧ j ≤ bs.length ∧ ok x

/-- So many of them, one behind the other. -/
def many {α : Type} (f : Nat → Option (α × Nat)) : Nat → Nat → Option (List α × Nat)
  | 0, i => some ([], i)
  | n + 1, i => (many f n i).bind fun p => (f p.2).map fun q => (p.1 ++ [q.1], q.2)
theorem many_zero {α : Type} (f : Nat → Option (α × Nat)) (i : Nat) : many f 0 i = some ([], i) := rfl
theorem many_go {α : Type} {f : Nat → Option (α × Nat)} {n i j k : Nat} {l : List α} {x : α} (h : many f n i = some (l, j)) (hx : f j = some (x, k)) : many f (n + 1) i = some (l ++ [x], k) := by
  rw [many, h]; simp [hx]
theorem many_stop {α : Type} {f : Nat → Option (α × Nat)} {n i j : Nat} {l : List α} (h : many f n i = some (l, j)) (hx : f j = none) : many f (n + 1) i = none := by
  rw [many, h]; simp [hx]
theorem many_none {α : Type} {f : Nat → Option (α × Nat)} {n i : Nat} (h : many f n i = none) : ∀ k, many f (n + k) i = none
  | 0 => h
  | k + 1 => by rw [← Nat.add_assoc, many, many_none h k]; rfl
theorem many_none' {α : Type} {f : Nat → Option (α × Nat)} {n m i : Nat} (h : many f n i = none) (hm : n ≤ m) : many f m i = none := by
  obtain ⟨k, rfl⟩ : ∃ k, m = n + k := ⟨m - n, by omega⟩
  exact many_none h k
theorem many_len {α : Type} {f : Nat → Option (α × Nat)} {i : Nat} : ∀ (n : Nat) {l : List α} {j : Nat}, many f n i = some (l, j) → l.length = n
  | 0, l, j, h => by simp [many] at h; rw [h.1]; rfl
  | n + 1, l, j, h => by
    rw [many] at h
    obtain ⟨⟨l', j'⟩, h1, h2⟩ := Option.bind_eq_some_iff.1 h
    obtain ⟨⟨x, k⟩, h3, h4⟩ := Option.map_eq_some_iff.1 h2
    simp only [Prod.mk.injEq] at h4
    rw [← h4.1, List.length_append, many_len n h1]; rfl
theorem many_split {α : Type} (C : Codec α) (bs : List UInt8) (i : Nat) (hi : i ≤ bs.length) : ∀ (n : Nat) {l : List α} {j : Nat}, many (C.part bs) n i = some (l, j) →
    bs.drop i = l.flatMap C.enc ++ bs.drop j ∧ i ≤ j ∧ j ≤ bs.length ∧ ∀ x ∈ l, C.ok x
  | 0, l, j, h => by
    simp [many] at h
    obtain ⟨rfl, rfl⟩ := h
    simp [hi]
  | n + 1, l, j, h => by
    rw [many] at h
    obtain ⟨⟨l', j'⟩, h1, h2⟩ := Option.bind_eq_some_iff.1 h
    obtain ⟨⟨x, k⟩, h3, h4⟩ := Option.map_eq_some_iff.1 h2
    simp only [Prod.mk.injEq] at h4
    obtain ⟨rfl, rfl⟩ := h4
    obtain ⟨a1, a2, a3, a4⟩ := many_split C bs i hi n h1
    obtain ⟨b1, b2, b3, b4⟩ := C.split bs j' x k h3
    refine ⟨by rw [a1, b1]; simp, by omega, b3, fun y hy => ?_⟩
    rcases List.mem_append.1 hy with h | h
    · exact a4 y h
    · rw [List.mem_singleton] at h; rw [h]; exact b4
theorem many_fit_to {α : Type} (C : Codec α) (bs : List UInt8) (i : Nat) (hi : i ≤ bs.length) (l : List α) (r : List UInt8) (h : bs.drop i = l.flatMap C.enc ++ r) (hok : ∀ x ∈ l, C.ok x) :
    ∀ n, n ≤ l.length → many (C.part bs) n i = some (l.take n, i + ((l.take n).flatMap C.enc).length)
  | 0, _ => by simp [many]
  | n + 1, hn => by
    have ih := many_fit_to C bs i hi l r h hok n (by omega)
    have hl : l = l.take n ++ (l[n] :: l.drop (n + 1)) := by rw [← List.drop_eq_getElem_cons (by omega), List.take_append_drop]
    have h1 : bs.drop (i + ((l.take n).flatMap C.enc).length) = C.enc l[n] ++ ((l.drop (n + 1)).flatMap C.enc ++ r) := by
      have h0 : l.flatMap C.enc = (l.take n).flatMap C.enc ++ (C.enc l[n] ++ (l.drop (n + 1)).flatMap C.enc) := by
        conv => lhs; rw [hl]
        rw [List.flatMap_append, List.flatMap_cons]
      rw [← List.drop_drop, h, h0, List.append_assoc, List.drop_left, List.append_assoc]
    have hle : i + ((l.take n).flatMap C.enc).length ≤ bs.length := by
      have h2 := congrArg List.length h
      rw [hl] at h2
      simp only [List.length_drop, List.flatMap_append, List.length_append] at h2
      omega
    have h3 := C.fit bs _ l[n] _ h1 hle (hok _ (List.getElem_mem _))
    rw [many_go ih h3, List.take_succ_eq_append_getElem (by omega), List.flatMap_append, List.length_append, Nat.add_assoc, List.flatMap_cons, List.flatMap_nil, List.append_nil]
theorem many_fit {α : Type} (C : Codec α) (bs : List UInt8) (i : Nat) (hi : i ≤ bs.length) (l : List α) (r : List UInt8) (h : bs.drop i = l.flatMap C.enc ++ r) (hok : ∀ x ∈ l, C.ok x) :
    many (C.part bs) l.length i = some (l, i + (l.flatMap C.enc).length) := by
  have := many_fit_to C bs i hi l r h hok l.length (Nat.le_refl _)
  rwa [List.take_length] at this
theorem flat_snoc {α : Type} (f : α → List UInt8) (l : List α) (j : Nat) (h : j < l.length) : (l.take (j + 1)).flatMap f = (l.take j).flatMap f ++ f l[j] := by
  rw [List.take_succ_eq_append_getElem h, List.flatMap_append, List.flatMap_cons, List.flatMap_nil, List.append_nil]
theorem flat_take_le {α : Type} (f : α → List UInt8) (l : List α) (j : Nat) : ((l.take j).flatMap f).length ≤ (l.flatMap f).length := by
  have h : l.flatMap f = (l.take j).flatMap f ++ (l.drop j).flatMap f := by rw [← List.flatMap_append, List.take_append_drop]
  rw [h, List.length_append]; omega

theorem drop_le_of {bs a r : List UInt8} {i : Nat} (h : bs.drop i = a ++ r) (ha : a ≠ []) : i + a.length ≤ bs.length := by
  have h2 := congrArg List.length h
  simp only [List.length_drop, List.length_append] at h2
  have : 0 < a.length := List.length_pos_iff.2 ha
  omega
/-- A text, its length ahead of it. -/
def encT (x : List UInt8) : List UInt8 := be x.length 2 ++ x
theorem encT_len (x : List UInt8) : (encT x).length = 2 + x.length := by simp [encT, be_length]
def codecT : Codec (List UInt8) where
  enc := encT
  part := fun bs i => if TxtOk bs i then some (txtAt bs i, txtTo bs i) else none
  ok := fun x => x.length ≤ 65535
  fit := by
    intro bs i x r h _ hok
    unfold encT at h
    rw [List.append_assoc] at h
    obtain ⟨h1, h2, _, h4⟩ := txt_of h hok
    rw [if_pos h4, h1, h2, encT_len]; simp only [Option.some.injEq, Prod.mk.injEq, true_and]; omega
  split := by
    intro bs i x j h
    by_cases q : TxtOk bs i
    · rw [if_pos q] at h
      simp only [Option.some.injEq, Prod.mk.injEq] at h
      obtain ⟨rfl, rfl⟩ := h
      have hl := txtAt_len q
      have h2 : txtTo bs i = i + 2 + (txtAt bs i).length := by unfold txtTo; rw [if_pos q]
      have hb := q.2
      have h3 := beVal_lt ((bs.drop i).take 2)
      rw [show ((bs.drop i).take 2).length = 2 from by have := q.1; simp; omega] at h3
      refine ⟨?_, by omega, by omega, by omega⟩
      rw [txt_split q, h2, encT, List.append_assoc]
    · rw [if_neg q] at h; simp at h
/-- So many bytes. -/
def codecR (n : Nat) (hn : 0 < n) : Codec (List UInt8) where
  enc := fun x => x
  part := fun bs i => if i + n ≤ bs.length then some ((bs.drop i).take n, i + n) else none
  ok := fun x => x.length = n
  fit := by
    intro bs i x r h hi hok
    have hl := congrArg List.length h
    simp only [List.length_drop, List.length_append] at hl
    rw [if_pos (by omega), h, ← hok, List.take_left]
  split := by
    intro bs i x j h
    by_cases q : i + n ≤ bs.length
    · rw [if_pos q] at h
      simp only [Option.some.injEq, Prod.mk.injEq] at h
      obtain ⟨rfl, rfl⟩ := h
      refine ⟨?_, by omega, q, by simp; omega⟩
      rw [← List.drop_drop, List.take_append_drop]
    · rw [if_neg q] at h; simp at h
/-- One thing, and another behind it. -/
def Codec.pair {α β : Type} (A : Codec α) (B : Codec β) : Codec (α × β) where
  enc := fun x => A.enc x.1 ++ B.enc x.2
  part := fun bs i => (A.part bs i).bind fun p => (B.part bs p.2).map fun q => ((p.1, q.1), q.2)
  ok := fun x => A.ok x.1 ∧ B.ok x.2
  fit := by
    intro bs i x r h hi hok
    rw [List.append_assoc] at h
    have hl := congrArg List.length h
    simp only [List.length_drop, List.length_append] at hl
    have h1 := A.fit bs i x.1 _ h hi hok.1
    have h2 : bs.drop (i + (A.enc x.1).length) = B.enc x.2 ++ r := by rw [← List.drop_drop, h, List.drop_left]
    have h3 := B.fit bs _ x.2 _ h2 (by omega) hok.2
    simp [h1, h3, Nat.add_assoc]
  split := by
    intro bs i x j h
    obtain ⟨⟨a, k⟩, h1, h2⟩ := Option.bind_eq_some_iff.1 h
    obtain ⟨⟨b, m⟩, h3, h4⟩ := Option.map_eq_some_iff.1 h2
    simp only [Prod.mk.injEq] at h4
    obtain ⟨rfl, rfl⟩ := h4
    obtain ⟨a1, a2, a3, a4⟩ := A.split bs i a k h1
    obtain ⟨b1, b2, b3, b4⟩ := B.split bs k b m h3
    exact ⟨by rw [a1, b1, List.append_assoc], by omega, b3, a4, b4⟩
theorem pair_some {α β : Type} {A : Codec α} {B : Codec β} {bs : List UInt8} {i j k : Nat} {a : α} {b : β} (h : A.part bs i = some (a, j)) (h2 : B.part bs j = some (b, k)) : (A.pair B).part bs i = some ((a, b), k) := by
  simp [Codec.pair, h, h2]
theorem pair_none1 {α β : Type} {A : Codec α} {B : Codec β} {bs : List UInt8} {i : Nat} (h : A.part bs i = none) : (A.pair B).part bs i = none := by
  simp [Codec.pair, h]
theorem pair_none2 {α β : Type} {A : Codec α} {B : Codec β} {bs : List UInt8} {i j : Nat} {a : α} (h : A.part bs i = some (a, j)) (h2 : B.part bs j = none) : (A.pair B).part bs i = none := by
  simp [Codec.pair, h, h2]
theorem txt_some {bs : List UInt8} {i : Nat} (h : TxtOk bs i) : codecT.part bs i = some (txtAt bs i, txtTo bs i) := by simp [codecT, h]
theorem txt_none {bs : List UInt8} {i : Nat} (h : ¬ TxtOk bs i) : codecT.part bs i = none := by simp [codecT, h]
theorem raw_part {bs : List UInt8} {i n : Nat} (hn : 0 < n) (h : i + n ≤ bs.length) : (codecR n hn).part bs i = some ((bs.drop i).take n, i + n) := by simp [codecR, h]
theorem raw_part_none {bs : List UInt8} {i n : Nat} (hn : 0 < n) (h : ¬ i + n ≤ bs.length) : (codecR n hn).part bs i = none := by simp [codecR, h]
end Go.Proofs.Ytdeajjppmgfemaa
