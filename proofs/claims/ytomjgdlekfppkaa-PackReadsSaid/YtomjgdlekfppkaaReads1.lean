/- What PackReads keeps from round to round: an eye, and the document's own, at one place of the same bytes. -/
import Derived.Test.YtomjgdlekfppkaaWrites1
import Derived.Test.YtomjgdlekfppkaaREye2
namespace Go.Proofs.Ytomjgdlekfppkaa
open Go.RowKit
set_option linter.unusedVariables false

/-- What End answers. -/
def endNum (bs : List UInt8) (i : Nat) : Int := if i < bs.length then 21 else 0
theorem eye_end_any (B : Nat) (v : Value) (bs : List UInt8) (i : Nat) (w : World) (h : Eye 62 5 w B v bs i) (hl : bs.length ≤ 1099511627776) :
    Calls Try.prog 24 #[.pointer (some ⟨B, 0, none⟩)] w fun e w' => e = .returned (.int .i64 (endNum bs i)) ∧ ∃ n, w' = w.drewN n := by
  unfold endNum
  by_cases hi : i < bs.length
  · rw [if_pos hi]; exact end_tail B v bs i w h hl hi
  · have he : i = bs.length := by have := h.le; omega
    subst he
    rw [if_neg hi]; exact end_ok B v bs w h hl
theorem reye_end_any (B : Nat) (ao : Option Addr) (cap : Nat) (bs : List UInt8) (i : Nat) (w : World) (h : REye w B ao cap bs i) (hl : bs.length ≤ 1099511627776) :
    Calls Try.prog 25 #[.pointer (some ⟨B, 0, none⟩)] w fun e w' => e = .returned (.int .i64 (endNum bs i)) ∧ ∃ n, w' = w.drewN n := by
  unfold endNum
  by_cases hi : i < bs.length
  · rw [if_pos hi]; exact reye_end_tail B ao cap bs i w h hi
  · have he : i = bs.length := by have := h.le; omega
    subst he
    rw [if_neg hi]; exact reye_end_ok B ao cap bs w h hl

/-- Both eyes stand at i. -/
structure Two (wr : World) (B1 B2 : Nat) (u : Value) (ao : Option Addr) (c : Nat) (bs : List UInt8) (i : Nat) : Prop where
  eye : Eye 62 5 wr B1 u bs i
  reye : REye wr B2 ao c bs i
  ne : B1 ≠ B2
  row : u.ownBlock ≠ some B2
  far : ∀ a, ao = some a → bs ≠ [] → a.block ≠ B1
theorem Two.same {wr w : World} {B1 B2 : Nat} {u : Value} {ao : Option Addr} {c : Nat} {bs : List UInt8} {i : Nat} (h : Two wr B1 B2 u ao c bs i) (k : Same wr w) : Two w B1 B2 u ao c bs i :=
  ⟨h.eye.keeps k (fun e => e) (fun _ _ e => e), h.reye.same k, h.ne, h.row, h.far⟩
theorem Two.reye1 {wr w : World} {B1 B2 : Nat} {u : Value} {ao : Option Addr} {c : Nat} {bs : List UInt8} {i : Nat} (h : Two wr B1 B2 u ao c bs i) (k : Keeps (fun k => k = B1) wr w) : REye w B2 ao c bs i :=
  h.reye.keeps k (fun e => h.ne e.symm) (fun a e hn => h.far a e hn)
theorem Two.next {wr w5 w6 : World} {B1 B2 : Nat} {u : Value} {ao : Option Addr} {c : Nat} {bs : List UInt8} {i i' : Nat} (h : Two wr B1 B2 u ao c bs i) (he : Eye 62 5 w5 B1 u bs i') (k2 : Keeps (fun k => k = B2) w5 w6) (hr : REye w6 B2 ao c bs i') :
    Two w6 B1 B2 u ao c bs i' :=
  ⟨he.keeps k2 (fun e => h.ne e) (fun j e hj => h.row (by rw [e, hj])), hr, h.ne, h.row, h.far⟩
def Twin (B1 B2 : Nat) : Nat → Prop := fun k => k = B1 ∨ k = B2
theorem Twin.comp {wr w4 w5 w6 : World} {B1 B2 : Nat} (h1 : Same wr w4) (h2 : Keeps (fun k => k = B1) w4 w5) (h3 : Keeps (fun k => k = B2) w5 w6) : Keeps (Twin B1 B2) wr w6 :=
  ((h1.any (S := Twin B1 B2)).trans h2 (fun _ _ e => .inl e)).trans h3 (fun _ _ e => .inr e)
/-- Where a round stands when both have answered. -/
structure ReadyR (wr w6 : World) (B1 B2 : Nat) (u : Value) (ao : Option Addr) (c : Nat) (bs : List UInt8) (i : Nat) (av bv : Value) (ab : List UInt8) : Prop where
  two : Two w6 B1 B2 u ao c bs i
  keeps : Keeps (Twin B1 B2) wr w6
  avo : w6.ownsRow wr.heap.size 5 1 av ab.length (u8s ab)
  bvo : Bytes w6 bv ab
  spot : ∀ (a : Addr) (n c : Nat), bv = Value.slice (some a) n c → a.spot = none
structure RInv (w5 wr : World) (B1 B2 : Nat) (u : Value) (ao : Option Addr) (c : Nat) (bs : List UInt8) (i : Nat) : Prop where
  two : Two wr B1 B2 u ao c bs i
  keeps : Keeps (Twin B1 B2) w5 wr
theorem RInv.next {w5 wr w6 w8 w9 : World} {B1 B2 : Nat} {u : Value} {ao : Option Addr} {c : Nat} {bs ab : List UInt8} {i i' : Nat} {av bv : Value} (h : RInv w5 wr B1 B2 u ao c bs i) (r : ReadyR wr w6 B1 B2 u ao c bs i' av bv ab) (k : Same w6 w8) (k9 : Keeps (RowOf av) w8 w9) : RInv w5 w9 B1 B2 u ao c bs i' := by
  have hav : ∀ j, RowOf av j → wr.heap.size ≤ j := fun j e => (r.avo.lt j e).1
  have hB1 := h.two.eye.lt
  have hB2 := h.two.reye.lt
  have h8 := r.two.same k
  refine ⟨⟨h8.eye.keeps k9 (fun e => by have := hav _ e; omega) (fun j e hj => by have := hav j hj; have := (h.two.eye.own.lt j e).2; omega), ?_, h8.ne, h8.row, h8.far⟩, ?_⟩
  · refine h8.reye.keeps k9 (fun e => by have := hav _ e; omega) (fun a e hn hj => ?_)
    have hb := h.two.reye.bytes
    rw [e] at hb
    have h1 := hb.lt hn
    have h2 := hav _ hj
    omega
  · have hz := h.keeps.size
    exact (((h.keeps.trans r.keeps (fun _ _ e => e)).trans k (fun _ _ e => e.elim))).trans k9 (fun j hj e => by have := hav j e; omega)
theorem own_empty (w : World) (o : Obj) : ((w.alloc (.cells #[] 5)).alloc o).ownsRow w.heap.size 5 1 (.slice (some ⟨w.heap.size, 0, none⟩) 0 0) ([] : List UInt8).length (u8s []) := by
  have := World.ownsRow_made (base := w.heap.size) (e := 5) (size := 1) w #[] 0 (Nat.le_refl _) (by unfold maxLen; omega) (by simp)
  have h2 := own_keeps ((Keeps.refl (fun _ => False) (w.alloc (.cells #[] 5))).alloc o) this (fun _ _ e => e)
  simpa [u8s] using h2
theorem own_nil8 (w : World) (base : Nat) : w.ownsRow base 5 1 (.slice none 0 0) ([] : List UInt8).length (u8s []) := by simpa [u8s] using World.ownsRow_nil w base 5 1
theorem spot_lit (g n c : Nat) : ∀ (a : Addr) (m d : Nat), Value.slice (some ⟨g, 0, none⟩) n c = .slice (some a) m d → a.spot = none := by
  intro a m d e; simp only [Value.slice.injEq, Option.some.injEq] at e; rw [← e.1]

end Go.Proofs.Ytomjgdlekfppkaa
