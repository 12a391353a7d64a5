/- Paths as bytes: what a name is, how a path is cut. No program is named here. -/
import Derived.Test.YtjehihgcbbialaaDoorStrs
import Derived.Lib.SplitLaws
namespace Go.Proofs.YtjehihgcbbialaaDoor
open Go.RowKit
set_option linter.unusedVariables false

def okB (b : UInt8) : Bool := decide (33 ≤ b.toNat) && decide (b.toNat ≤ 126) && decide (b.toNat ≠ 47)
def nameB (bs : List UInt8) : Bool := decide (1 ≤ bs.length) && decide (bs.length ≤ 8) && bs.all okB
def cut47 : List UInt8 → List (List UInt8)
  | [] => [[]]
  | b :: r => if b = 47 then [] :: cut47 r else match cut47 r with
    | h :: t => (b :: h) :: t
    | [] => [[b]]
theorem cut47_cons (bs : List UInt8) : ∃ h t, cut47 bs = h :: t := by
  cases bs with
  | nil => exact ⟨[], [], rfl⟩
  | cons b r =>
    rw [cut47]
    split
    · exact ⟨_, _, rfl⟩
    · split <;> exact ⟨_, _, rfl⟩
theorem cut47_none : ∀ (bs : List UInt8), (∀ b ∈ bs, b ≠ 47) → cut47 bs = [bs]
  | [], _ => rfl
  | b :: r, h => by
    rw [cut47, if_neg (h b (by simp)), cut47_none r (fun x hx => h x (by simp [hx]))]
theorem cut47_some : ∀ (i : Nat) (bs : List UInt8), bs[i]? = some 47 → (∀ k, k < i → bs[k]? ≠ some 47) → cut47 bs = bs.take i :: cut47 (bs.drop (i + 1))
  | 0, b :: r, h, _ => by
    simp only [List.getElem?_cons_zero, Option.some.injEq] at h
    rw [cut47, if_pos h]; simp
  | i + 1, b :: r, h, hk => by
    have hb : ¬ b = 47 := fun e => hk 0 (by omega) (by simp [e])
    have ih := cut47_some i r (by simpa using h) (fun k hki => by have := hk (k + 1) (by omega); simpa using this)
    rw [cut47, if_neg hb, ih]
    simp
  | _, [], h, _ => by simp at h
theorem splitK_cut : ∀ (k : Nat) (bs : List UInt8), Lib.count bs [47] = k → Lib.splitK [47] 0 k bs = cut47 bs := by
  intro k
  induction k with
  | zero =>
    intro bs h
    rw [Lib.count_one] at h
    rw [Lib.splitK, cut47_none bs (fun b hb e => by subst e; exact absurd hb (List.count_eq_zero.1 h))]
  | succ k ih =>
    intro bs h
    rw [Lib.splitK]
    have hix := Lib.index_one bs 47
    by_cases hm : Lib.index bs [47] = -1
    · rw [Lib.count_miss hm] at h; omega
    · have hge := Lib.index_ge bs [47]
      obtain ⟨i, hi⟩ : ∃ i : Nat, Lib.index bs [47] = i := ⟨(Lib.index bs [47]).toNat, by omega⟩
      rw [if_neg (by simpa using hm), hi]
      obtain ⟨h1, h2⟩ := Lib.indexByte_some (hix.symm.trans hi)
      rw [cut47_some i bs h1 h2]
      have hc := Lib.count_hit (by simp) hi
      rw [h] at hc
      have hc2 : Lib.count (bs.drop (i + 1)) [47] = k := by simp only [List.length_cons, List.length_nil, Nat.zero_add] at hc; omega
      simp only [Int.toNat_natCast, Nat.add_zero, List.length_cons, List.length_nil, Nat.zero_add]
      rw [ih _ hc2]
theorem split_cut (bs : List UInt8) : Lib.split bs [47] = cut47 bs := splitK_cut _ bs rfl
def namesOf (bs : List UInt8) : Option (List (List UInt8)) :=
  if bs = [47] then some [] else if 24 < bs.length ∨ ¬ bs.head? = some 47 then none else if (cut47 bs.tail).all nameB then some (cut47 bs.tail) else none
def nl (bs : List UInt8) : List (List UInt8) := (namesOf bs).getD []
def bsA (x : List UInt8) : ByteArray := ⟨x.toArray⟩
theorem sb_bsA (x : List UInt8) : sb (bsA x) = x := sb_mk x
theorem bsA_sb (s : ByteArray) : bsA (sb s) = s := sb_inj (sb_bsA _)
end Go.Proofs.YtjehihgcbbialaaDoor
