/- append onto an empty literal: the bytes lie in new memory. No program is named here. -/
import Derived.Test.YtafgiljgefeefaaDoorApp
import Derived.Test.YtafgiljgefeefaaDoorBytes
import Derived.ArgAppend
namespace Go.Proofs.YtafgiljgefeefaaDoor
open Go.RowKit
set_option linter.unusedVariables false

theorem run_append_empty {P : Program} (w : World) (t ty e : TypeId) (i : TypeInfo) (ht : P.underlying t = some (.slice e)) (hi : P.info? e = some i) (hz : i.zero = some (.int .u8 0)) (hs : i.size = 1) (hb : i.bytes = 1)
    (a0 : Addr) (x : Value) (more : List UInt8) (hx : Bytes w x more) (hl : more.length ≤ 140737488351232) :
    ∃ a c w', (Builtin.append_ #[t, t] ty #[.slice (some a0) 0 0, x]).run P w = .ok (.slice (some a) more.length c) w' ∧ Same w w' ∧ Bytes w' (.slice (some a) more.length c) more ∧ (more ≠ [] → a.spot = none ∧ w.heap.size ≤ a.block) := by
  rcases Nat.eq_zero_or_pos more.length with h0 | h0
  · obtain rfl := List.length_eq_zero_iff.1 h0
    obtain ⟨ao, c, rfl⟩ := hx.form
    exact ⟨a0, 0, w, run_append_zero w t ty e i ht hi _ _ _ _ _ (Nat.le_refl _), Keeps.refl _ _, Bytes.nil _ _ _, fun h => absurd rfl h⟩
  · rcases hx with ⟨a, c, rfl, hc⟩ | ⟨c, rfl, rfl⟩
    · obtain ⟨v', w', hr, h1, h2⟩ := run_append_arg_grows (P := P) w t ty e i (.int .u8 0) 1 1 ht hi hz hs hb rfl (by omega) a0 0 0 [] (by simp) (by simp) a more.length c (u8s more) (by rw [u8s_length, Nat.mul_one]) hc (by omega) (by unfold maxLen; omega) (by omega)
      simp only [List.nil_append, Nat.zero_add] at h1
      have hby := Bytes.of_own h1
      rcases h1.2 with ⟨rfl, h⟩ | ⟨g, cap, cur, rfl, hg, _⟩
      · omega
      · exact ⟨⟨g, 0, none⟩, cap, w', hr, (Keeps.refl _ _).grown h2 (fun k e => by cases e), hby, fun _ => ⟨rfl, hg⟩⟩
    · simp at h0

theorem step_append_empty {P : Program} {ops : Array Oper} {o : Oper} {a : Act} {w : World} {K : Act → World → Prop} {Q : Exit → Act → World → Prop} {E : Prop} (hgd : o.guard = none) (s x : Operand) (t e : TypeId) (i : TypeInfo)
    (ho : o.op = .call { callee := .builtin .append, args := #[s, x], argTypes := #[t, t] }) (ht : P.underlying t = some (.slice e)) (hi : P.info? e = some i) (hz : i.zero = some (.int .u8 0)) (hsz : i.size = 1) (hb : i.bytes = 1)
    (a0 : Addr) (more : List UInt8) (xv : Value) (hs : a.eval s = .slice (some a0) 0 0) (hx : a.eval x = xv) (hbx : Bytes w xv more) (hl : more.length ≤ 140737488351232)
    (h : ∀ b c w', Same w w' → Bytes w' (.slice (some b) more.length c) more → (more ≠ [] → b.spot = none ∧ w.heap.size ≤ b.block) → K (a.put o.dst (.slice (some b) more.length c)) w') :
    if Region.wanted o (yielded ops a.tmps) = true then Oper.wp P o a w K Q else E := by
  obtain ⟨b, c, w', h1, h2, h3, h4⟩ := run_append_empty (P := P) w t o.type e i ht hi hz hsz hb a0 xv more hbx hl
  exact step_append_run hgd s x t ho _ _ _ w' hs hx h1 (h b c w' h2 h3 h4)
theorem wpList_append_empty {P : Program} {ops : Array Oper} {rest : List Oper} {o : Oper} {a : Act} {w : World} {Q : Exit → Act → World → Prop} (hgd : o.guard = none) (s x : Operand) (t e : TypeId) (i : TypeInfo)
    (ho : o.op = .call { callee := .builtin .append, args := #[s, x], argTypes := #[t, t] }) (ht : P.underlying t = some (.slice e)) (hi : P.info? e = some i) (hz : i.zero = some (.int .u8 0)) (hsz : i.size = 1) (hb : i.bytes = 1)
    (a0 : Addr) (more : List UInt8) (xv : Value) (hs : a.eval s = .slice (some a0) 0 0) (hx : a.eval x = xv) (hbx : Bytes w xv more) (hl : more.length ≤ 140737488351232)
    (h : ∀ b c w', Same w w' → Bytes w' (.slice (some b) more.length c) more → (more ≠ [] → b.spot = none ∧ w.heap.size ≤ b.block) → wpList P ops Q rest (a.put o.dst (.slice (some b) more.length c)) w') :
    wpList P ops Q (o :: rest) a w := by
  obtain ⟨b, c, w', h1, h2, h3, h4⟩ := run_append_empty (P := P) w t o.type e i ht hi hz hsz hb a0 xv more hbx hl
  exact wpList_append_run hgd s x t ho _ _ _ w' hs hx h1 (h b c w' h2 h3 h4)

theorem own_empty (w : World) (t : TypeId) : (w.alloc (.cells #[] t)).ownsRow w.heap.size t 1 (.slice (some ⟨w.heap.size, 0, none⟩) ([] : List UInt8).length 0) ([] : List UInt8).length (u8s []) := by
  have := World.ownsRow_made (base := w.heap.size) (e := t) (size := 1) w #[] 0 (Nat.le_refl _) (by unfold maxLen; omega) (by simp)
  simpa [u8s] using this

theorem own_cap {w : World} {base : Nat} {e : TypeId} {n g cap : Nat} {xs : List Value} (h : w.ownsRow base e 1 (.slice (some ⟨g, 0, none⟩) n cap) n xs) : n ≤ cap ∧ cap ≤ 9223372036854775807 := by
  rcases h.2 with ⟨h, _⟩ | ⟨g, cp, cur, h, _, _, h2, h3, _⟩
  · simp at h
  · simp only [Value.slice.injEq] at h
    unfold maxLen at h3; omega

/-- A literal that was just made. -/
theorem own_lit (w : World) (t : TypeId) (xs : List Value) (n : Nat) (hn : xs.length = n) (hl : n ≤ 1000000) : (w.alloc (.cells xs.toArray t)).ownsRow w.heap.size t 1 (.slice (some ⟨w.heap.size, 0, none⟩) n n) n xs := by
  refine ⟨by omega, .inr ⟨w.heap.size, n, xs.toArray, rfl, Nat.le_refl _, heap_alloc_new w _, Nat.le_refl _, by unfold maxLen; omega, by simp [hn], ?_⟩⟩
  simp [← hn]

end Go.Proofs.YtafgiljgefeefaaDoor
