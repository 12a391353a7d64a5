/- Rows of a call's own: a store into one; what becomes of its bytes. No program is named here. -/
import Derived.Test.YtafgiljgefeefaaDoorApp
import Derived.Test.YtafgiljgefeefaaDoorBytes
import Derived.OwnWalk
namespace Go.Proofs.YtafgiljgefeefaaDoor
open Go.RowKit
set_option linter.unusedVariables false

theorem own_set {w : World} {base : Nat} {e : TypeId} {n g cap i : Nat} {xs : List Value} {u : Value} (h : w.ownsRow base e 1 (.slice (some ⟨g, 0, none⟩) n cap) n xs) (hi : i < n) :
    (w.setCell ⟨g, i, none⟩ u).ownsRow base e 1 (.slice (some ⟨g, 0, none⟩) n cap) n (xs.set i u) := by
  obtain ⟨h1, h2⟩ := h
  refine ⟨by rw [List.length_set]; exact h1, ?_⟩
  rcases h2 with ⟨h3, _⟩ | ⟨g', cap', cur, h3, hb, hg, hn, hc, hs, ht⟩
  · simp at h3
  · simp only [Value.slice.injEq, Option.some.injEq, Addr.mk.injEq] at h3
    obtain ⟨⟨rfl, _⟩, _, rfl⟩ := h3
    have hlt := lt_of_block hg
    refine .inr ⟨g, cap, cur.setIfInBounds i u, rfl, hb, ?_, hn, hc, by simpa using hs, ?_⟩
    · simp [World.setCell, Array.getElem?_modify, hg]
    · rw [← ht]
      simp [Array.toList_setIfInBounds, List.take_set]
theorem own_cell {w : World} {base : Nat} {e : TypeId} {n g cap : Nat} {bs : List UInt8} (h : w.ownsRow base e 1 (.slice (some ⟨g, 0, none⟩) n cap) n (u8s bs)) (i : Nat) (hi : i < n) :
    w.cell? ⟨g, i, none⟩ = some (.int .u8 ((bs.getD i 0).toNat : Int)) ∧ w.frozen? ⟨g, i, none⟩ = false := by
  have hl : bs.length = n := by have := h.1; rw [u8s_length] at this; omega
  constructor
  · have := h.cells rfl i _ (u8s_get bs i (by omega))
    have hadd : (⟨g, 0, none⟩ : Addr).add i = ⟨g, i, none⟩ := by unfold Addr.add; split <;> simp_all
    rw [hadd] at this
    exact this
  · rcases h.2 with ⟨h3, _⟩ | ⟨g', cap', cur, h3, hb, hg, _⟩
    · simp at h3
    · simp only [Value.slice.injEq, Option.some.injEq, Addr.mk.injEq] at h3
      obtain ⟨⟨rfl, _⟩, _, rfl⟩ := h3
      simp [World.frozen?, hg]
theorem u8s_set (bs : List UInt8) (i : Nat) (b : UInt8) : u8s (bs.set i b) = (u8s bs).set i (.int .u8 (b.toNat : Int)) := by simp [u8s, List.map_set]
theorem own_set8 {w : World} {base : Nat} {e : TypeId} {n g cap i : Nat} {bs : List UInt8} {u : Value} (b : UInt8) (h : w.ownsRow base e 1 (.slice (some ⟨g, 0, none⟩) n cap) n (u8s bs)) (hi : i < n) (hu : u = .int .u8 (b.toNat : Int)) :
    (w.setCell ⟨g, i, none⟩ u).ownsRow base e 1 (.slice (some ⟨g, 0, none⟩) n cap) n (u8s (bs.set i b)) := by
  rw [u8s_set, ← hu]; exact own_set h hi

/-- The bytes of a number, written from the last one on. -/
def back (n size k : Nat) : List UInt8 := List.replicate (size - k) 0 ++ (be n size).drop (size - k)
theorem back_length (n size k : Nat) (h : k ≤ size) : (back n size k).length = size := by
  unfold back
  rw [List.length_append, List.length_replicate, List.length_drop, be_length]
  omega
theorem back_zero (n size : Nat) : back n size 0 = List.replicate size 0 := by
  unfold back
  rw [Nat.sub_zero, List.drop_of_length_le (by rw [be_length]; exact Nat.le_refl _), List.append_nil]
theorem back_all (n size : Nat) : back n size size = be n size := by simp [back]
theorem be_getD (n size j : Nat) (h : j < size) : (be n size)[j]'(by rw [be_length]; exact h) = UInt8.ofNat (n / 256 ^ (size - 1 - j)) := by simp [be]
theorem back_succ (n size k : Nat) (h : k < size) : (back n size k).set (size - 1 - k) (UInt8.ofNat (n / 256 ^ k)) = back n size (k + 1) := by
  unfold back
  have e1 : size - k = (size - (k + 1)) + 1 := by omega
  have e2 : size - 1 - k = size - (k + 1) := by omega
  rw [e2, e1, List.replicate_succ', List.append_assoc, List.set_append_right _ _ (by simp)]
  simp only [List.length_replicate, Nat.sub_self, List.singleton_append, List.set_cons_zero]
  congr 1
  rw [List.drop_eq_getElem_cons (i := size - (k + 1)) (by rw [be_length]; omega), be_getD _ _ _ (by omega)]
  rw [show size - 1 - (size - (k + 1)) = k from by omega]

/-- append of whatever reads as bytes onto a row of the call's own, which is no nil slice. -/
theorem run_append_bytes {P : Program} (w : World) (t ty e : TypeId) (i : TypeInfo) (ht : P.underlying t = some (.slice e)) (hi : P.info? e = some i) (hz : i.zero = some (.int .u8 0)) (hs : i.size = 1) (hb : i.bytes = 1)
    (base g cap : Nat) (xs more : List UInt8) (x : Value) (hown : w.ownsRow base e 1 (.slice (some ⟨g, 0, none⟩) xs.length cap) xs.length (u8s xs)) (hx : Bytes w x more) (hl : xs.length + more.length ≤ 140737488351232) (hbase : base ≤ w.heap.size) :
    ∃ g' cap' w', (Builtin.append_ #[t, t] ty #[.slice (some ⟨g, 0, none⟩) xs.length cap, x]).run P w = .ok (.slice (some ⟨g', 0, none⟩) (xs.length + more.length) cap') w' ∧
      w'.ownsRow base e 1 (.slice (some ⟨g', 0, none⟩) (xs.length + more.length) cap') (xs.length + more.length) (u8s (xs ++ more)) ∧ w.grownBy w' (some g) ∧ (g' = g ∨ g' = w.heap.size) := by
  rcases Nat.eq_zero_or_pos more.length with h0 | h0
  · obtain rfl := List.length_eq_zero_iff.1 h0
    obtain ⟨ao, c, rfl⟩ := hx.form
    have hn : xs.length ≤ cap := by
      rcases hown.2 with ⟨h, _⟩ | ⟨g', cap', cur, h, _, _, h3, _⟩
      · simp at h
      · simp only [Value.slice.injEq] at h; omega
    exact ⟨g, cap, w, run_append_zero w t ty e i ht hi _ _ _ _ _ hn, by simpa using hown, World.grownBy.refl _ _, .inl rfl⟩
  · rcases hx with ⟨a, c, rfl, hc⟩ | ⟨c, rfl, rfl⟩
    · obtain ⟨g', cap', w', h1, h2, h3, h4, _⟩ := run_append_lies (P := P) w t ty base e i (.int .u8 0) 1 1 ht hi hz hs hb rfl (by omega) _ xs.length (u8s xs) hown a more.length c (u8s more) (by rw [u8s_length, Nat.mul_one]) hc (u8s_cell more) h0 (by unfold maxLen; omega) (by omega) hbase w.heap.size rfl
      refine ⟨g', cap', w', h1, by rw [u8s_append]; exact h2, h3, ?_⟩
      rcases h4 with h4 | h4
      · simp only [Value.ownBlock, Option.some.injEq] at h4; exact .inl h4.symm
      · exact .inr h4
    · simp at h0
theorem wpList_append_bytes {P : Program} {ops : Array Oper} {rest : List Oper} {o : Oper} {a : Act} {w : World} {Q : Exit → Act → World → Prop} (hgd : o.guard = none) (s x : Operand) (t e : TypeId) (i : TypeInfo)
    (ho : o.op = .call { callee := .builtin .append, args := #[s, x], argTypes := #[t, t] }) (ht : P.underlying t = some (.slice e)) (hi : P.info? e = some i) (hz : i.zero = some (.int .u8 0)) (hsz : i.size = 1) (hb : i.bytes = 1)
    (base g cap : Nat) (xs more : List UInt8) (xv : Value) (hs : a.eval s = .slice (some ⟨g, 0, none⟩) xs.length cap) (hx : a.eval x = xv) (hown : w.ownsRow base e 1 (.slice (some ⟨g, 0, none⟩) xs.length cap) xs.length (u8s xs)) (hbx : Bytes w xv more) (hl : xs.length + more.length ≤ 140737488351232) (hbase : base ≤ w.heap.size)
    (h : ∀ g' cap' w', w'.ownsRow base e 1 (.slice (some ⟨g', 0, none⟩) (xs.length + more.length) cap') (xs.length + more.length) (u8s (xs ++ more)) → w.grownBy w' (some g) → (g' = g ∨ g' = w.heap.size) → wpList P ops Q rest (a.put o.dst (.slice (some ⟨g', 0, none⟩) (xs.length + more.length) cap')) w') :
    wpList P ops Q (o :: rest) a w := by
  obtain ⟨g', cap', w', h1, h2, h3, h4⟩ := run_append_bytes (P := P) w t o.type e i ht hi hz hsz hb base g cap xs more xv hown hbx hl hbase
  exact wpList_append_run hgd s x t ho _ _ _ w' hs hx h1 (h g' cap' w' h2 h3 h4)

theorem step_append_bytes {P : Program} {ops : Array Oper} {o : Oper} {a : Act} {w : World} {K : Act → World → Prop} {Q : Exit → Act → World → Prop} {E : Prop} (hgd : o.guard = none) (s x : Operand) (t e : TypeId) (i : TypeInfo)
    (ho : o.op = .call { callee := .builtin .append, args := #[s, x], argTypes := #[t, t] }) (ht : P.underlying t = some (.slice e)) (hi : P.info? e = some i) (hz : i.zero = some (.int .u8 0)) (hsz : i.size = 1) (hb : i.bytes = 1)
    (base g cap : Nat) (xs more : List UInt8) (xv : Value) (hs : a.eval s = .slice (some ⟨g, 0, none⟩) xs.length cap) (hx : a.eval x = xv) (hown : w.ownsRow base e 1 (.slice (some ⟨g, 0, none⟩) xs.length cap) xs.length (u8s xs)) (hbx : Bytes w xv more) (hl : xs.length + more.length ≤ 140737488351232) (hbase : base ≤ w.heap.size)
    (h : ∀ g' cap' w', w'.ownsRow base e 1 (.slice (some ⟨g', 0, none⟩) (xs.length + more.length) cap') (xs.length + more.length) (u8s (xs ++ more)) → w.grownBy w' (some g) → (g' = g ∨ g' = w.heap.size) → K (a.put o.dst (.slice (some ⟨g', 0, none⟩) (xs.length + more.length) cap')) w') :
    if Region.wanted o (yielded ops a.tmps) = true then Oper.wp P o a w K Q else E := by
  obtain ⟨g', cap', w', h1, h2, h3, h4⟩ := run_append_bytes (P := P) w t o.type e i ht hi hz hsz hb base g cap xs more xv hown hbx hl hbase
  exact step_append_run hgd s x t ho _ _ _ w' hs hx h1 (h g' cap' w' h2 h3 h4)

theorem made_u8 (n : Nat) : (madeCells (Value.int .u8 0).cells n).toList = u8s (List.replicate n 0) := by
  apply List.ext_getElem
  · simp [madeCells, u8s]
  · intro i h1 h2
    simp [madeCells, u8s, Value.cells, Nat.mod_one]

end Go.Proofs.YtafgiljgefeefaaDoor
