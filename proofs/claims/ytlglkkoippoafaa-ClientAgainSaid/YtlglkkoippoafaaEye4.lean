/- What pack.NewEye and (*pack.Eye).Text do. -/
import Derived.Test.YtlglkkoippoafaaPack3
import Derived.Deep.QuietTactic
import Derived.BigQuiet
import Derived.Lib.EndianBits
namespace Go.Proofs.Ytlglkkoippoafaa
open Go.RowKit
set_option linter.unusedVariables false

theorem add_at (g i j : Nat) : (⟨g, i, none⟩ : Addr).add j = ⟨g, i + j, none⟩ := by unfold Addr.add; split <;> simp_all
/-- Block B is a struct (type T) of a slice that reads as the bytes bs (its row is another block), and of a number up to which they were read. -/
structure Eye (T E : TypeId) (w : World) (B : Nat) (v : Value) (bs : List UInt8) (i : Nat) : Prop where
  obj : w.heap[B]? = some (.cells #[v, .int .i64 i] T (0, 0))
  own : w.ownsRow 0 E 1 v bs.length (u8s bs)
  far : v.ownBlock ≠ some B
  le : i ≤ bs.length
theorem cell_of_two {w : World} {b : Nat} {v u : Value} {t : TypeId} (h : w.heap[b]? = some (.cells #[v, u] t (0, 0))) : w.cell? ⟨b, 0, none⟩ = some v ∧ w.cell? ⟨b, 1, none⟩ = some u ∧ w.frozen? ⟨b, 0, none⟩ = false ∧ w.frozen? ⟨b, 1, none⟩ = false := by simp [World.cell?, World.frozen?, h]
theorem two_set1 {w : World} {b : Nat} {v u x : Value} {t : TypeId} (h : w.heap[b]? = some (.cells #[v, u] t (0, 0))) : (w.setCell ⟨b, 1, none⟩ x).heap[b]? = some (.cells #[v, x] t (0, 0)) := by
  have hlt := lt_of_block h
  have hv := (Array.getElem?_eq_some_iff.1 h).2
  simp [World.setCell, Array.getElem?_modify, h]
theorem Eye.keeps {T E : TypeId} {w w' : World} {B : Nat} {v : Value} {bs : List UInt8} {i : Nat} (h : Eye T E w B v bs i) {S : Nat → Prop} (k : Keeps S w w') (hB : ¬ S B) (hr : ∀ j, v.ownBlock = some j → ¬ S j) : Eye T E w' B v bs i :=
  ⟨k.obj h.obj hB, own_keeps k h.own hr, h.far, h.le⟩
theorem Eye.drewN {T E : TypeId} {w : World} {B : Nat} {v : Value} {bs : List UInt8} {i : Nat} (h : Eye T E w B v bs i) (n : Nat) : Eye T E (w.drewN n) B v bs i := h.keeps ((Keeps.refl (fun _ => False) w).drewN n) (fun e => e) (fun _ _ e => e)
theorem Eye.set {T E : TypeId} {w : World} {B : Nat} {v : Value} {bs : List UInt8} {i j : Nat} (h : Eye T E w B v bs i) (hj : j ≤ bs.length) : Eye T E (w.setCell ⟨B, 1, none⟩ (.int .i64 j)) B v bs j :=
  ⟨two_set1 h.obj, ownsRow_setCell_other h.own h.far _, h.far, hj⟩
theorem Eye.form {T E : TypeId} {w : World} {B : Nat} {v : Value} {bs : List UInt8} {i : Nat} (h : Eye T E w B v bs i) : (v = .slice none 0 0 ∧ bs = []) ∨ ∃ g cap, v = .slice (some ⟨g, 0, none⟩) bs.length cap ∧ bs.length ≤ cap := by
  rcases h.own.2 with ⟨rfl, h0⟩ | ⟨g, cap, cur, rfl, _, _, hc, _⟩
  · exact .inl ⟨rfl, List.length_eq_zero_iff.1 h0⟩
  · exact .inr ⟨g, cap, rfl, hc⟩
theorem Eye.lt {T E : TypeId} {w : World} {B : Nat} {v : Value} {bs : List UInt8} {i : Nat} (h : Eye T E w B v bs i) : B < w.heap.size := lt_of_block h.obj
/-- What is left of the eye's bytes reads as such. -/
theorem Eye.part {T E : TypeId} {w : World} {B g cap : Nat} {bs : List UInt8} {i n : Nat} (h : Eye T E w B (.slice (some ⟨g, 0, none⟩) bs.length cap) bs i) (hn : i + n ≤ bs.length) (c : Nat) :
    Bytes w (.slice (some ⟨g, i, none⟩) n c) ((bs.drop i).take n) := by
  have hl : ((bs.drop i).take n).length = n := by simp; omega
  refine .inl ⟨⟨g, i, none⟩, c, by rw [hl], fun j u hu => ?_⟩
  have hj : j < n := by
    have := (List.getElem?_eq_some_iff.1 hu).1
    rw [u8s_length, hl] at this; exact this
  have hadd : (⟨g, i, none⟩ : Addr).add j = ⟨g, i + j, none⟩ := by unfold Addr.add; split <;> simp_all
  have hadd2 : (⟨g, 0, none⟩ : Addr).add (i + j) = ⟨g, i + j, none⟩ := by unfold Addr.add; split <;> simp_all
  rw [hadd, ← hadd2]
  refine h.own.cells rfl (i + j) u ?_
  rw [← hu]
  simp [u8s, hj, List.getElem?_drop]

/-- The same at the address that a slice expression makes. -/
theorem Eye.slice {T E : TypeId} {w : World} {B g cap : Nat} {bs : List UInt8} {i n : Nat} (h : Eye T E w B (.slice (some ⟨g, 0, none⟩) bs.length cap) bs i) (hn : i + n ≤ bs.length) (hc : bs.length ≤ cap) :
    ∃ ad : Addr, (if cap = i then some (⟨g, 0, none⟩ : Addr) else some ⟨g, i, none⟩) = some ad ∧ ad.spot = none ∧ ad.block = g ∧ ∀ c, Bytes w (.slice (some ad) n c) ((bs.drop i).take n) := by
  by_cases e : cap = i
  · refine ⟨_, if_pos e, rfl, rfl, fun c => ?_⟩
    have h0 : n = 0 := by omega
    subst h0
    exact Bytes.nil _ _ _
  · exact ⟨_, if_neg e, rfl, rfl, fun c => h.part hn c⟩

/-- Clone, of a slice whose length is spelt otherwise. -/
theorem clone_at (a : Addr) (n c : Nat) (bs : List UInt8) (w : World) (hx : Bytes w (.slice (some a) n c) bs) (hn : bs.length = n) (hl : n ≤ 140737488351232) :
    Calls Try.prog 34 #[.slice (some a) n c] w fun e w' => ∃ v, e = .returned v ∧ w'.ownsRow w.heap.size 5 1 v n (u8s bs) ∧ Same w w' ∧ v ≠ .slice none 0 0 := by
  subst hn; exact clone_some a c bs w hx hl

end Go.Proofs.Ytlglkkoippoafaa
namespace Go.Proofs.Ytlglkkoippoafaa
open Go.RowKit
set_option linter.unusedVariables false

end Go.Proofs.Ytlglkkoippoafaa
namespace Go.Proofs.Ytlglkkoippoafaa
open Go.RowKit
set_option linter.unusedVariables false

/-- The number of bytes, the greatest first. -/
def beVal (l : List UInt8) : Nat := l.foldl (fun n b => n * 256 + b.toNat) 0
theorem beVal_snoc (l : List UInt8) (b : UInt8) : beVal (l ++ [b]) = beVal l * 256 + b.toNat := by simp [beVal]
theorem beVal_from : ∀ (l : List UInt8) (n : Nat), l.foldl (fun n b => n * 256 + b.toNat) n < (n + 1) * 256 ^ l.length
  | [], n => by simp
  | b :: l, n => by
    have h := beVal_from l (n * 256 + b.toNat)
    have hb := b.toNat_lt
    rw [List.foldl_cons, List.length_cons, Nat.pow_succ, Nat.mul_comm (256 ^ l.length) 256, ← Nat.mul_assoc]
    exact Nat.lt_of_lt_of_le h (Nat.mul_le_mul_right _ (by omega))
theorem beVal_lt (l : List UInt8) : beVal l < 256 ^ l.length := by simpa [beVal] using beVal_from l 0

theorem u64_wrap_in (x : Int) (h0 : 0 ≤ x) (h1 : x < 18446744073709551616) : IntKind.u64.wrap x = x := by
  rw [IntKind.wrap_u64]; omega
theorem or_byte (a b : Nat) (ha : a < 72057594037927936) (hb : b < 256) : bits BinOp.or IntKind.u64 (IntKind.u64.wrap ((a : Int) * 256)) (IntKind.u64.wrap (b : Int)) = ((a * 256 + b : Nat) : Int) := by
  rw [u64_wrap_in _ (by omega) (by omega), u64_wrap_in _ (by omega) (by omega)]
  have hc : bits BinOp.or IntKind.u64 ((a : Int) * 256) (b : Int) = bits BinOp.or IntKind.u64 (b : Int) ((a : Int) * 256) := by simp only [bits, BitVec.or_comm]
  have h8 := u64_or8 (y := (b : Int)) (x := (a : Int) * 256) (by omega) (by omega) (by omega) (by omega) (by omega)
  refine hc.trans (h8.trans ?_)
  omega
theorem take_snoc (l : List UInt8) (j : Nat) (h : j < l.length) : l.take (j + 1) = l.take j ++ [l[j]?.getD 0] := by
  rw [List.take_succ_eq_append_getElem h]; simp [h]
theorem beVal_small (l : List UInt8) (j : Nat) (h : j < 8) : beVal (l.take j) < 72057594037927936 := by
  have h1 := beVal_lt (l.take j)
  have h2 : (l.take j).length ≤ 7 := by have := List.length_take_le j l; omega
  have h3 : 256 ^ (l.take j).length ≤ 256 ^ 7 := Nat.pow_le_pow_right (by omega) h2
  exact Nat.lt_of_lt_of_le h1 h3

theorem foldl_shift : ∀ (l : List UInt8) (n : Nat), l.foldl (fun n b => n * 256 + b.toNat) n = n * 256 ^ l.length + l.foldl (fun n b => n * 256 + b.toNat) 0
  | [], n => by simp
  | b :: l, n => by
    rw [List.foldl_cons, List.foldl_cons, foldl_shift l (n * 256 + b.toNat), foldl_shift l (0 * 256 + b.toNat), List.length_cons, Nat.pow_succ, Nat.add_mul, Nat.zero_mul, Nat.zero_add, Nat.mul_comm (256 ^ l.length) 256, ← Nat.mul_assoc]
    omega
theorem beVal_cons (b : UInt8) (l : List UInt8) : beVal (b :: l) = b.toNat * 256 ^ l.length + beVal l := by
  unfold beVal
  rw [List.foldl_cons, foldl_shift]
  simp

end Go.Proofs.Ytlglkkoippoafaa
namespace Go.Proofs.Ytlglkkoippoafaa
open Go.RowKit
set_option linter.unusedVariables false

end Go.Proofs.Ytlglkkoippoafaa
