/- What may be in a sector behind a crash; an array of rows of rows beside a disk. -/
import Derived.Test.YtoimhniijeafaaaDk16
import Derived.Test.YtoimhniijeafaaaPlan5
namespace Go.Proofs.Ytoimhniijeafaaa
open Go.RowKit
set_option linter.unusedVariables false

theorem suffered_get {o n : List UInt8} (h1 : o.length = 512) (h2 : n.length = 512) (f : Int) (k : Nat) : (suffered o n f).getD k 0 = o.getD k 0 ∨ (suffered o n f).getD k 0 = n.getD k 0 := by
  have key : ∀ (a b : List UInt8) (m : Nat), a.length = b.length → (a.take m ++ b.drop m).getD k 0 = a.getD k 0 ∨ (a.take m ++ b.drop m).getD k 0 = b.getD k 0 := by
    intro a b m hl
    simp only [List.getD_eq_getElem?_getD]
    by_cases hk : k < m
    · by_cases hka : k < a.length
      · left
        rw [List.getElem?_append_left (by simp; omega)]
        simp [hk]
      · right
        rw [List.getElem?_eq_none (by simp; omega), List.getElem?_eq_none (by omega)]
    · by_cases hma : m ≤ a.length
      · right
        rw [List.getElem?_append_right (by simp; omega), List.getElem?_drop, List.length_take, Nat.min_eq_left hma]
        congr 2; omega
      · right
        rw [List.getElem?_eq_none (by simp; omega), List.getElem?_eq_none (by omega)]
  unfold suffered
  split
  · exact .inr rfl
  · split
    · exact (key n o _ (by omega)).symm
    · split
      · exact key o n _ (by omega)
      · exact .inl rfl
/-- Each byte behind a crash is the elder or one of those written. -/
theorem fated_bytes (i k : Nat) : ∀ (ps : List ((Nat × List UInt8) × Int)) (L : List (List UInt8)), (∀ x ∈ L, x.length = 512) → (∀ q ∈ ps, q.1.2.length = 512 ∧ q.1.1 < L.length) →
    ((ps.foldl fated L).getD i []).getD k 0 = (L.getD i []).getD k 0 ∨ ∃ q ∈ ps, q.1.1 = i ∧ q.1.2.getD k 0 = ((ps.foldl fated L).getD i []).getD k 0
  | [], L, _, _ => .inl rfl
  | q :: r, L, hL, hps => by
    obtain ⟨hq1, hq2⟩ := hps q (List.mem_cons_self ..)
    have hold : (L.getD q.1.1 []).length = 512 := by
      rw [List.getD_eq_getElem?_getD, List.getElem?_eq_getElem hq2]
      exact hL _ (List.getElem_mem hq2)
    have hlen : (fated L q).length = L.length := fated_len L q
    have ih := fated_bytes i k r (fated L q) (fun x hx => by
      rcases List.mem_or_eq_of_mem_set hx with hx | rfl
      · exact hL x hx
      · exact suffered_length hold hq1 _) (fun p hp => by rw [hlen]; exact hps p (List.mem_cons_of_mem _ hp))
    rw [List.foldl_cons]
    rcases ih with ih | ⟨p, hp, h1, h2⟩
    · rw [ih]
      by_cases hi : q.1.1 = i
      · have he : ((fated L q).getD i []) = suffered (L.getD q.1.1 []) q.1.2 q.2 := by
          unfold fated
          rw [← hi, List.getD_eq_getElem?_getD, List.getElem?_set_self hq2]; rfl
        rw [he]
        rcases suffered_get hold hq1 q.2 k with h | h
        · left; rw [h, hi]
        · right; exact ⟨q, List.mem_cons_self .., hi, h.symm⟩
      · left
        have he : ((fated L q).getD i []) = L.getD i [] := by
          unfold fated
          rw [List.getD_eq_getElem?_getD, List.getElem?_set_ne hi, ← List.getD_eq_getElem?_getD]
        rw [he]
    · exact .inr ⟨p, List.mem_cons_of_mem _ hp, h1, h2⟩

def upd {α : Type} (f : Nat → α) (i : Nat) (v : α) : Nat → α := fun j => if j = i then v else f j
theorem upd_self {α : Type} (f : Nat → α) (i : Nat) (v : α) : upd f i v i = v := by simp [upd]
theorem upd_ne {α : Type} (f : Nat → α) {i j : Nat} (v : α) (h : j ≠ i) : upd f i v j = f j := by simp [upd, h]
theorem upd_range (f : Nat → Value) (i : Nat) (v : Value) (hi : i < 8) : ((List.range 8).map f).set i v = (List.range 8).map (upd f i v) := by
  apply List.ext_getElem
  · simp
  · intro j h1 h2
    simp only [List.length_set, List.length_map, List.length_range] at h1
    rw [List.getElem_set]
    split
    · next e => subst e; simp [upd]
    · next e => simp [upd, Ne.symm e]

def RowOk (w wr : World) (F : Nat → Prop) (M : Nat) (vs : Nat → Value) (p : Value × List UInt8) : Prop :=
  wr.ownsRow w.heap.size 5 1 p.1 512 (u8s p.2) ∧ p.2.length = 512 ∧ ∀ k, p.1.ownBlock = some k → k ≠ M ∧ ¬ F k ∧ ∀ j, j < 8 → (vs j).ownBlock ≠ some k
structure LsI (w wr : World) (D : Nat) (F : Nat → Prop) (s : DSt) (M : Nat) (vs : Nat → Value) (R : Nat → List (Value × List UInt8)) (X : List (Value × List UInt8)) : Prop where
  dk : Dk F wr D s
  same : Same w wr
  above : ∀ k, F k → w.heap.size ≤ k
  arr : Whole wr M 47 ((List.range 8).map vs)
  arrAbove : w.heap.size ≤ M
  arrF : ¬ F M
  outer : ∀ i, i < 8 → wr.ownsRow w.heap.size 31 1 (vs i) (R i).length ((R i).map (·.1)) ∧ (vs i).ownBlock ≠ some M ∧ ∀ k, (vs i).ownBlock = some k → ¬ F k
  apart : ∀ i j k, i < 8 → j < 8 → i ≠ j → (vs i).ownBlock = some k → (vs j).ownBlock ≠ some k
  rows : ∀ i, i < 8 → ∀ p ∈ R i, RowOk w wr F M vs p
  pend : ∀ p ∈ X, RowOk w wr F M vs p
theorem RowOk.same {w wr w' : World} {F : Nat → Prop} {M : Nat} {vs : Nat → Value} {p : Value × List UInt8} (h : RowOk w wr F M vs p) (k : Same wr w') : RowOk w w' F M vs p := ⟨own_keeps k h.1 (fun _ _ e => e), h.2⟩
theorem RowOk.step {w wr w' : World} {F F' : Nat → Prop} {M : Nat} {vs : Nat → Value} {p : Value × List UInt8} (h : RowOk w wr F M vs p) (k : Keeps F wr w') (hg : Grow F F' wr) : RowOk w w' F' M vs p :=
  ⟨own_keeps k h.1 (fun j e => (h.2.2 j e).2.1), h.2.1, fun j e => ⟨(h.2.2 j e).1, fun e2 => by
    rcases hg j e2 with e3 | e3
    · exact (h.2.2 j e).2.1 e3
    · have := (h.1.lt j e).2; omega, (h.2.2 j e).2.2⟩⟩
variable {w wr w' : World} {D : Nat} {F F' : Nat → Prop} {s s' : DSt} {M : Nat} {vs : Nat → Value} {R : Nat → List (Value × List UInt8)} {X : List (Value × List UInt8)}
theorem LsI.keep (h : LsI w wr D F s M vs R X) (k : Same wr w') : LsI w w' D F s M vs R X :=
  ⟨h.dk.same k, h.same.trans k (fun _ _ e => e), h.above, h.arr.keep k (fun e => e), h.arrAbove, h.arrF, fun i hi => ⟨own_keeps k (h.outer i hi).1 (fun _ _ e => e), (h.outer i hi).2⟩, h.apart, fun i hi p hp => (h.rows i hi p hp).same k, fun p hp => (h.pend p hp).same k⟩
theorem LsI.step (h : LsI w wr D F s M vs R X) (hd : Dk F' w' D s') (k : Keeps F wr w') (hg : Grow F F' wr) : LsI w w' D F' s' M vs R X := by
  refine ⟨hd, h.same.trans k (fun j hj e => by have := h.above j e; omega), fun j e => ?_, h.arr.keep k h.arrF, h.arrAbove, fun e => ?_, fun i hi => ⟨own_keeps k (h.outer i hi).1 (h.outer i hi).2.2, (h.outer i hi).2.1, fun j e e2 => ?_⟩, h.apart, fun i hi p hp => (h.rows i hi p hp).step k hg, fun p hp => (h.pend p hp).step k hg⟩
  · rcases hg j e with e | e
    · exact h.above j e
    · have := h.same.size; omega
  · rcases hg _ e with e | e
    · exact h.arrF e
    · have := h.arr.lt; omega
  · rcases hg _ e2 with e3 | e3
    · exact (h.outer i hi).2.2 j e e3
    · have := ((h.outer i hi).1.lt j e).2; omega
theorem LsI.fresh (h : LsI w wr D F s M vs R X) (k : Same wr w') {v : Value} {A : List UInt8} (hA : A.length = 512) (ho : w'.ownsRow wr.heap.size 5 1 v 512 (u8s A)) : LsI w w' D F s M vs R ((v, A) :: X) := by
  have h2 := h.keep k
  refine { h2 with pend := fun p hp => ?_ }
  rcases List.mem_cons.1 hp with rfl | hp
  · refine ⟨own_base ho h.same.size, hA, fun j e => ?_⟩
    have hj := (ho.lt j e).1
    refine ⟨by have := h.arr.lt; omega, fun e2 => by have := h.dk.lt j e2; omega, fun q hq e2 => by have := ((h.outer q hq).1.lt j e2).2; omega⟩
  · exact h2.pend p hp
theorem LsI.add (h : LsI w wr D F s M vs R X) (i : Nat) (hi : i < 8) (p : Value × List UInt8) (hp : RowOk w wr F M vs p) (w2 : World) (k : Keeps (fun q => (vs i).ownBlock = some q) wr w2) (v' : Value)
    (ho : w2.ownsRow w.heap.size 31 1 v' ((R i).length + 1) ((R i).map (·.1) ++ [p.1])) (g : Nat) (hg : v'.ownBlock = some g) (hat : (vs i).ownBlock = some g ∨ wr.heap.size ≤ g) :
    LsI w (w2.setCell ⟨M, i, none⟩ v') D F s M (upd vs i v') (upd R i (R i ++ [p])) X := by
  have k2 : Keeps (fun q => q = M) w2 (w2.setCell ⟨M, i, none⟩ v') := (Keeps.refl _ _).setCell _ _ (.inr rfl)
  have kk : Keeps (fun q => (vs i).ownBlock = some q ∨ q = M) wr (w2.setCell ⟨M, i, none⟩ v') := (k.mono (fun _ _ e => .inl e)).trans k2 (fun _ _ e => .inr e)
  have hgM : g ≠ M := by
    rintro rfl
    rcases hat with e | e
    · exact (h.outer i hi).2.1 e
    · have := h.arr.lt; omega
  have hgF : ¬ F g := fun e => by
    rcases hat with e2 | e2
    · exact (h.outer i hi).2.2 g e2 e
    · have := h.dk.lt g e; omega
  have hgo : ∀ j, j < 8 → j ≠ i → (vs j).ownBlock ≠ some g := fun j hj hji e => by
    rcases hat with e2 | e2
    · exact h.apart i j g hi hj (fun q => hji q.symm) e2 e
    · have := ((h.outer j hj).1.lt g e).2; omega
  have rowok : ∀ q, RowOk w wr F M vs q → RowOk w (w2.setCell ⟨M, i, none⟩ v') F M (upd vs i v') q := fun q hq => by
    refine ⟨own_keeps kk hq.1 (fun j e e2 => ?_), hq.2.1, fun j e => ⟨(hq.2.2 j e).1, (hq.2.2 j e).2.1, fun t ht e2 => ?_⟩⟩
    · rcases e2 with e2 | e2
      · exact (hq.2.2 j e).2.2 i hi e2
      · exact (hq.2.2 j e).1 e2
    · by_cases hti : t = i
      · subst hti
        rw [upd_self, hg] at e2
        cases e2
        rcases hat with e3 | e3
        · exact (hq.2.2 g e).2.2 t hi e3
        · have := (hq.1.lt g e).2; omega
      · rw [upd_ne _ _ hti] at e2
        exact (hq.2.2 j e).2.2 t ht e2
  refine ⟨h.dk.keep kk (fun j e e2 => ?_), h.same.trans kk (fun j hj e => ?_), h.above, ?_, h.arrAbove, h.arrF, fun j hj => ?_, fun a b c ha hb hab e e2 => ?_, fun j hj q hq => ?_, fun q hq => rowok q (h.pend q hq)⟩
  · rcases e2 with e2 | e2
    · exact (h.outer i hi).2.2 j e2 e
    · subst e2; exact h.arrF e
  · rcases e with e | e
    · have := ((h.outer i hi).1.lt j e).1; omega
    · have := h.arrAbove; omega
  · have := (h.arr.keep k (h.outer i hi).2.1).set i v'
    rw [upd_range _ _ _ hi] at this
    exact this
  · by_cases hji : j = i
    · subst hji
      rw [upd_self, upd_self]
      refine ⟨?_, fun e => hgM (by rw [hg] at e; cases e; rfl), fun q e => by rw [hg] at e; cases e; exact hgF⟩
      rw [List.length_append, List.map_append]
      exact own_keeps k2 ho (fun q e e2 => hgM (by rw [hg] at e; cases e; exact e2))
    · rw [upd_ne _ _ hji, upd_ne _ _ hji]
      refine ⟨own_keeps kk (h.outer j hj).1 (fun q e e2 => ?_), (h.outer j hj).2⟩
      rcases e2 with e2 | e2
      · exact h.apart i j q hi hj (fun e3 => hji e3.symm) e2 e
      · subst e2; exact (h.outer j hj).2.1 e
  · by_cases hai : a = i
    · subst hai
      rw [upd_self, hg] at e
      cases e
      rw [upd_ne _ _ (Ne.symm hab)] at e2
      exact hgo b hb (Ne.symm hab) e2
    · rw [upd_ne _ _ hai] at e
      by_cases hbi : b = i
      · subst hbi
        rw [upd_self, hg] at e2
        cases e2
        exact hgo a ha hai e
      · rw [upd_ne _ _ hbi] at e2
        exact h.apart a b c ha hb hab e e2
  · by_cases hji : j = i
    · subst hji
      rw [upd_self] at hq
      rcases List.mem_append.1 hq with hq | hq
      · exact rowok q (h.rows j hj q hq)
      · simp only [List.mem_singleton] at hq
        subst hq
        exact rowok q hp
    · rw [upd_ne _ _ hji] at hq
      exact rowok q (h.rows j hj q hq)
/-- What is held of each sector. -/
def ContI (L : List (List UInt8)) (O : List (Nat × List UInt8)) (R : Nat → List (Value × List UInt8)) : Prop := ∀ i, i < 8 → (∃ p ∈ R i, p.2 = L.getD i []) ∧ ∀ o ∈ O, o.1 = i → ∃ p ∈ R i, p.2 = o.2
theorem ContI.add {L : List (List UInt8)} {O : List (Nat × List UInt8)} (h : ContI L O R) (m : Nat) (v : Value) (B : List UInt8) : ContI L (O ++ [(m, B)]) (upd R m (R m ++ [(v, B)])) := by
  intro i hi
  obtain ⟨⟨p, hp, he⟩, h2⟩ := h i hi
  have sub : ∀ q ∈ R i, q ∈ upd R m (R m ++ [(v, B)]) i := fun q hq => by
    by_cases him : i = m
    · subst him; rw [upd_self]; exact List.mem_append_left _ hq
    · rw [upd_ne _ _ him]; exact hq
  refine ⟨⟨p, sub p hp, he⟩, fun o ho hoi => ?_⟩
  rcases List.mem_append.1 ho with ho | ho
  · obtain ⟨q, hq, e⟩ := h2 o ho hoi
    exact ⟨q, sub q hq, e⟩
  · simp only [List.mem_singleton] at ho
    subst ho
    simp only at hoi
    subst hoi
    rw [upd_self]
    exact ⟨(v, B), List.mem_append_right _ (List.mem_cons_self ..), rfl⟩
end Go.Proofs.Ytoimhniijeafaaa
