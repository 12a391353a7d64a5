/- A struct of a slice and a number; what (*pack.Eye).left, End, Raw do. -/
import Derived.Test.YtjehihgcbbialaaDoorPack2
import Derived.Deep.QuietTactic
import Derived.BigQuiet
namespace Go.Proofs.YtjehihgcbbialaaDoor
open Go.RowKit
set_option linter.unusedVariables false

theorem add_at (g i j : Nat) : (⟨g, i, none⟩ : Addr).add j = ⟨g, i + j, none⟩ := by unfold Addr.add; split <;> simp_all
/-- Block B is a struct (type T) of a slice that reads as the bytes bs (its row is another block), and of a number up to which they were read. -/
structure Eye (T E : TypeId) (w : World) (B : Nat) (v : Value) (bs : List UInt8) (i : Nat) : Prop where
  obj : w.heap[B]? = some (.cells #[v, .int .i64 i] T (0, 0))
  own : w.ownsRow 0 E 1 v bs.length (u8s bs)
  far : v.ownBlock ≠ some B
  le : i ≤ bs.length
theorem cell_of_two {w : World} {b : Nat} {v u : Value} {t : TypeId} (h : w.heap[b]? = some (.cells #[v, u] t (0, 0))) : w.cell? ⟨b, 0, none⟩ = some v ∧ w.cell? ⟨b, 1, none⟩ = some u ∧ w.frozen? ⟨b, 0, none⟩ = false ∧ w.frozen? ⟨b, 1, none⟩ = false := by simp [World.cell?, World.frozen?, h]
theorem two_set1 {w : World} {b : Nat} {v u x : Value} {t : TypeId} (h : w.heap[b]? = some (.cells #[v, u] t (0, 0))) : (w.setCell ⟨b, 1, none⟩ x).heap[b]? = some (.cells #[v, x] t (0, 0)) := by
  have hlt := lt_of_block h
  have hv := (Array.getElem?_eq_some_iff.1 h).2
  simp [World.setCell, Array.getElem?_modify, h]
theorem Eye.keeps {T E : TypeId} {w w' : World} {B : Nat} {v : Value} {bs : List UInt8} {i : Nat} (h : Eye T E w B v bs i) {S : Nat → Prop} (k : Keeps S w w') (hB : ¬ S B) (hr : ∀ j, v.ownBlock = some j → ¬ S j) : Eye T E w' B v bs i :=
  ⟨k.obj h.obj hB, own_keeps k h.own hr, h.far, h.le⟩
theorem Eye.drewN {T E : TypeId} {w : World} {B : Nat} {v : Value} {bs : List UInt8} {i : Nat} (h : Eye T E w B v bs i) (n : Nat) : Eye T E (w.drewN n) B v bs i := h.keeps ((Keeps.refl (fun _ => False) w).drewN n) (fun e => e) (fun _ _ e => e)
theorem Eye.set {T E : TypeId} {w : World} {B : Nat} {v : Value} {bs : List UInt8} {i j : Nat} (h : Eye T E w B v bs i) (hj : j ≤ bs.length) : Eye T E (w.setCell ⟨B, 1, none⟩ (.int .i64 j)) B v bs j :=
  ⟨two_set1 h.obj, ownsRow_setCell_other h.own h.far _, h.far, hj⟩
theorem Eye.form {T E : TypeId} {w : World} {B : Nat} {v : Value} {bs : List UInt8} {i : Nat} (h : Eye T E w B v bs i) : (v = .slice none 0 0 ∧ bs = []) ∨ ∃ g cap, v = .slice (some ⟨g, 0, none⟩) bs.length cap ∧ bs.length ≤ cap := by
  rcases h.own.2 with ⟨rfl, h0⟩ | ⟨g, cap, cur, rfl, _, _, hc, _⟩
  · exact .inl ⟨rfl, List.length_eq_zero_iff.1 h0⟩
  · exact .inr ⟨g, cap, rfl, hc⟩
theorem Eye.lt {T E : TypeId} {w : World} {B : Nat} {v : Value} {bs : List UInt8} {i : Nat} (h : Eye T E w B v bs i) : B < w.heap.size := lt_of_block h.obj
/-- What is left of the eye's bytes reads as such. -/
theorem Eye.part {T E : TypeId} {w : World} {B g cap : Nat} {bs : List UInt8} {i n : Nat} (h : Eye T E w B (.slice (some ⟨g, 0, none⟩) bs.length cap) bs i) (hn : i + n ≤ bs.length) (c : Nat) :
    Bytes w (.slice (some ⟨g, i, none⟩) n c) ((bs.drop i).take n) := by
  have hl : ((bs.drop i).take n).length = n := by simp; omega
  refine .inl ⟨⟨g, i, none⟩, c, by rw [hl], fun j u hu => ?_⟩
  have hj : j < n := by
    have := (List.getElem?_eq_some_iff.1 hu).1
    rw [u8s_length, hl] at this; exact this
  have hadd : (⟨g, i, none⟩ : Addr).add j = ⟨g, i + j, none⟩ := by unfold Addr.add; split <;> simp_all
  have hadd2 : (⟨g, 0, none⟩ : Addr).add (i + j) = ⟨g, i + j, none⟩ := by unfold Addr.add; split <;> simp_all
  rw [hadd, ← hadd2]
  refine h.own.cells rfl (i + j) u ?_
  rw [← hu]
  simp [u8s, hj, List.getElem?_drop]

/-- The same at the address that a slice expression makes. -/
theorem Eye.slice {T E : TypeId} {w : World} {B g cap : Nat} {bs : List UInt8} {i n : Nat} (h : Eye T E w B (.slice (some ⟨g, 0, none⟩) bs.length cap) bs i) (hn : i + n ≤ bs.length) (hc : bs.length ≤ cap) :
    ∃ ad : Addr, (if cap = i then some (⟨g, 0, none⟩ : Addr) else some ⟨g, i, none⟩) = some ad ∧ ad.spot = none ∧ ad.block = g ∧ ∀ c, Bytes w (.slice (some ad) n c) ((bs.drop i).take n) := by
  by_cases e : cap = i
  · refine ⟨_, if_pos e, rfl, rfl, fun c => ?_⟩
    have h0 : n = 0 := by omega
    subst h0
    exact Bytes.nil _ _ _
  · exact ⟨_, if_neg e, rfl, rfl, fun c => h.part hn c⟩

end Go.Proofs.YtjehihgcbbialaaDoor
