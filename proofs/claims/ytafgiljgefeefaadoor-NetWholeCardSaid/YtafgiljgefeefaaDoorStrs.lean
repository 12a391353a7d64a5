/- Slices of strings; strings' bytes; '[]byte(s)'. No program is named here. -/
import Derived.Test.YtafgiljgefeefaaDoorApp
import Derived.Lib.ConvBytes
namespace Go.Proofs.YtafgiljgefeefaaDoor
open Go.RowKit
set_option linter.unusedVariables false

theorem cell_of_six {w : World} {b : Nat} {v0 v1 v2 v3 v4 v5 : Value} {t : TypeId} (h : w.heap[b]? = some (.cells #[v0, v1, v2, v3, v4, v5] t (0, 0))) :
    w.cell? ⟨b, 0, none⟩ = some v0 ∧ w.cell? ⟨b, 1, none⟩ = some v1 ∧ w.cell? ⟨b, 2, none⟩ = some v2 ∧ w.cell? ⟨b, 3, none⟩ = some v3 ∧ w.cell? ⟨b, 4, none⟩ = some v4 ∧ w.cell? ⟨b, 5, none⟩ = some v5 := by simp [World.cell?, h]

/-- A string's bytes. -/
def sb (s : ByteArray) : List UInt8 := s.data.toList
theorem sb_length (s : ByteArray) : (sb s).length = s.size := Array.length_toList
theorem sb_inj {s t : ByteArray} (h : sb s = sb t) : s = t := by
  cases s; cases t; simp only [sb, ByteArray.mk.injEq] at *; exact Array.toList_inj.1 h
theorem toList_sb (p : ByteArray) : p.toList = sb p := ByteArray.toList_eq p
theorem toList_ne {p q : ByteArray} (h : ¬ p = q) : ¬ p.toList = q.toList := by
  rw [toList_sb, toList_sb]; exact fun e => h (sb_inj e)
theorem toList_nb {p q : ByteArray} (h : ¬ p = q) : (p.toList == q.toList) = false := by
  have := toList_ne h; simpa using this
theorem sb_mk (bs : List UInt8) : sb ⟨bs.toArray⟩ = bs := List.toList_toArray
/-- '[]byte(s)': the new row reads as the string's bytes; all else is as it was. -/
theorem bytesWorld_bytes (w : World) (e : TypeId) (s : ByteArray) (n c : Nat) (hn : n = (sb s).length) : Bytes (Lib.bytesWorld w e s) (.slice (some ⟨w.heap.size, 0, none⟩) n c) (sb s) := by
  subst hn
  refine .inl ⟨_, c, rfl, fun j u hu => ?_⟩
  have hj : j < s.size := by
    have := (List.getElem?_eq_some_iff.1 hu).1
    rw [u8s_length, sb_length] at this; exact this
  have hadd : (⟨w.heap.size, 0, none⟩ : Addr).add j = ⟨w.heap.size, j, none⟩ := by unfold Addr.add; split <;> simp_all
  rw [hadd, Lib.bytesWorld_cell w e s j hj, ← hu, u8s_get _ _ (by rw [sb_length]; exact hj)]
  rfl
theorem bytesWorld_keeps {S : Nat → Prop} {a w : World} (h : Keeps S a w) (e : TypeId) (s : ByteArray) : Keeps S a (Lib.bytesWorld w e s) :=
  ⟨h.os, h.tape, h.output, by have := h.size; rw [Lib.bytesWorld_size]; omega, fun k hk hn => (Lib.bytesWorld_at_old w e s k (Nat.lt_of_lt_of_le hk h.size)).trans (h.block k hk hn)⟩

/-- The slice x reads as the strings ss. -/
def Strs (w : World) (x : Value) (ss : List ByteArray) : Prop :=
  (∃ a c, x = .slice (some a) ss.length c ∧ ∀ j s, ss[j]? = some s → w.cell? (a.add j) = some (.string s)) ∨ (∃ c, x = .slice none 0 c ∧ ss = [])
theorem Strs.nil (w : World) (ao : Option Addr) (c : Nat) : Strs w (.slice ao 0 c) [] := by
  cases ao with
  | none => exact .inr ⟨c, rfl, rfl⟩
  | some a => exact .inl ⟨a, c, rfl, by simp⟩
theorem Strs.keeps {S : Nat → Prop} {w w' : World} {x : Value} {ss : List ByteArray} (h : Strs w x ss) (k : Keeps S w w') (hs : ∀ a n c, x = .slice (some a) n c → ¬ S a.block) : Strs w' x ss := by
  rcases h with ⟨a, c, rfl, hc⟩ | h
  · refine .inl ⟨a, c, rfl, fun j u hu => ?_⟩
    have h1 := hc j u hu
    have hb : (a.add j).block = a.block := by unfold Addr.add; split <;> rfl
    have hlt := World.block_lt_of_cell? w _ h1
    rw [World.cell?_of_block (w := w) (k.block _ hlt (by rw [hb]; exact hs a _ c rfl))]
    exact h1
  · exact .inr h
theorem Strs.same {w w' : World} {x : Value} {ss : List ByteArray} (h : Strs w x ss) (k : Same w w') : Strs w' x ss := h.keeps k fun _ _ _ _ e => e
theorem Strs.lt {w : World} {a : Addr} {n c : Nat} {ss : List ByteArray} (h : Strs w (.slice (some a) n c) ss) (h0 : ss ≠ []) : a.block < w.heap.size := by
  rcases h with ⟨a', c', h1, hc⟩ | ⟨c, h, _⟩
  · simp only [Value.slice.injEq, Option.some.injEq] at h1
    obtain ⟨rfl, _, _⟩ := h1
    cases ss with
    | nil => exact absurd rfl h0
    | cons b r =>
      have := World.block_lt_of_cell? w _ (hc 0 _ rfl)
      simpa [Addr.add] using this
  · simp at h
theorem Strs.at {w : World} {ao : Option Addr} {n c : Nat} {ss : List ByteArray} (h : Strs w (.slice ao n c) ss) {j : Nat} (hj : j < ss.length) : ∃ a, ao = some a ∧ w.cell? (a.add j) = some (.string ss[j]) := by
  rcases h with ⟨a', c', h1, hc⟩ | ⟨c, h, h1⟩
  · simp only [Value.slice.injEq] at h1
    obtain ⟨rfl, _, _⟩ := h1
    exact ⟨_, rfl, hc j _ (by simp [hj])⟩
  · subst h1; simp at hj
/-- A slice of strings as it lies behind calls that change the blocks S: they aren't its own. -/
theorem Strs.far {S : Nat → Prop} {w w' : World} {ao : Option Addr} {n c : Nat} {ss : List ByteArray} (h : Strs w (.slice ao n c) ss) (hn : n = ss.length) (k : Keeps S w w') (hs : ∀ j, j < w.heap.size → ¬ S j) : Strs w' (.slice ao n c) ss := by
  by_cases h0 : ss = []
  · subst h0; subst hn; exact Strs.nil _ _ _
  · refine h.keeps k fun a n' c' e => ?_
    simp only [Value.slice.injEq] at e
    obtain ⟨rfl, _, _⟩ := e
    exact hs _ (h.lt h0)
theorem Bytes.far {S : Nat → Prop} {w w' : World} {ao : Option Addr} {n c : Nat} {bs : List UInt8} (h : Bytes w (.slice ao n c) bs) (hn : n = bs.length) (k : Keeps S w w') (hs : ∀ j, j < w.heap.size → ¬ S j) : Bytes w' (.slice ao n c) bs := by
  by_cases h0 : bs = []
  · subst h0; subst hn; exact Bytes.nil _ _ _
  · refine h.keeps k fun a n' c' e => ?_
    simp only [Value.slice.injEq] at e
    obtain ⟨rfl, _, _⟩ := e
    exact hs _ (h.lt h0)

/-- 'string(x)', where an address is asked for only if there are bytes. -/
theorem run_string' {P : Program} {w : World} {ao : Option Addr} {c : Nat} {bs : List UInt8} (h : Bytes w (.slice ao bs.length c) bs) (hf : ∀ a, ao = some a → bs ≠ [] → a.spot = none)
    (src dst e : TypeId) (hs : P.underlying src = some (.slice e)) (he : P.underlying e = some (.int .u8)) (hd : P.underlying dst = some .string) :
    (convert src dst (.slice ao bs.length c)).run P w = .ok (.string ⟨bs.toArray⟩) w := by
  by_cases h0 : bs = []
  · subst h0; exact run_string_nil w ao c src dst e hs he hd
  · exact run_string h src dst e hs he hd fun a n c' e => by
      simp only [Value.slice.injEq] at e
      exact hf a e.1 h0

end Go.Proofs.YtafgiljgefeefaaDoor
