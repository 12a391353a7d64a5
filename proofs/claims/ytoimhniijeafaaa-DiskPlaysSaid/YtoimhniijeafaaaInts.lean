/- Slices of numbers. No program is named here. -/
import Derived.Test.YtoimhniijeafaaaStrs
import Derived.Test.YtoimhniijeafaaaRow
namespace Go.Proofs.Ytoimhniijeafaaa
open Go.RowKit
set_option linter.unusedVariables false

/-- The slice x reads as the numbers ss. -/
def Ints (w : World) (x : Value) (ss : List Int) : Prop :=
  (∃ a c, x = .slice (some a) ss.length c ∧ ∀ j s, ss[j]? = some s → w.cell? (a.add j) = some (.int .i64 s)) ∨ (∃ c, x = .slice none 0 c ∧ ss = [])
theorem Ints.nil (w : World) (ao : Option Addr) (c : Nat) : Ints w (.slice ao 0 c) [] := by
  cases ao with
  | none => exact .inr ⟨c, rfl, rfl⟩
  | some a => exact .inl ⟨a, c, rfl, by simp⟩
theorem Ints.keeps {S : Nat → Prop} {w w' : World} {x : Value} {ss : List Int} (h : Ints w x ss) (k : Keeps S w w') (hs : ∀ a n c, x = .slice (some a) n c → ¬ S a.block) : Ints w' x ss := by
  rcases h with ⟨a, c, rfl, hc⟩ | h
  · refine .inl ⟨a, c, rfl, fun j u hu => ?_⟩
    have h1 := hc j u hu
    have hb : (a.add j).block = a.block := by unfold Addr.add; split <;> rfl
    have hlt := World.block_lt_of_cell? w _ h1
    rw [World.cell?_of_block (w := w) (k.block _ hlt (by rw [hb]; exact hs a _ c rfl))]
    exact h1
  · exact .inr h
theorem Ints.same {w w' : World} {x : Value} {ss : List Int} (h : Ints w x ss) (k : Same w w') : Ints w' x ss := h.keeps k fun _ _ _ _ e => e
theorem Ints.lt {w : World} {a : Addr} {n c : Nat} {ss : List Int} (h : Ints w (.slice (some a) n c) ss) (h0 : ss ≠ []) : a.block < w.heap.size := by
  rcases h with ⟨a', c', h1, hc⟩ | ⟨c, h, _⟩
  · simp only [Value.slice.injEq, Option.some.injEq] at h1
    obtain ⟨rfl, _, _⟩ := h1
    cases ss with
    | nil => exact absurd rfl h0
    | cons b r =>
      have := World.block_lt_of_cell? w _ (hc 0 _ rfl)
      simpa [Addr.add] using this
  · simp at h
theorem Ints.at {w : World} {ao : Option Addr} {n c : Nat} {ss : List Int} (h : Ints w (.slice ao n c) ss) {j : Nat} (hj : j < ss.length) : ∃ a, ao = some a ∧ w.cell? (a.add j) = some (.int .i64 ss[j]) := by
  rcases h with ⟨a', c', h1, hc⟩ | ⟨c, h, h1⟩
  · simp only [Value.slice.injEq] at h1
    obtain ⟨rfl, _, _⟩ := h1
    exact ⟨_, rfl, hc j _ (by simp [hj])⟩
  · subst h1; simp at hj
/-- A slice of numbers as it lies behind calls that change the blocks S: they aren't its own. -/
theorem Ints.far {S : Nat → Prop} {w w' : World} {ao : Option Addr} {n c : Nat} {ss : List Int} (h : Ints w (.slice ao n c) ss) (hn : n = ss.length) (k : Keeps S w w') (hs : ∀ j, j < w.heap.size → ¬ S j) : Ints w' (.slice ao n c) ss := by
  by_cases h0 : ss = []
  · subst h0; subst hn; exact Ints.nil _ _ _
  · refine h.keeps k fun a n' c' e => ?_
    simp only [Value.slice.injEq] at e
    obtain ⟨rfl, _, _⟩ := e
    exact hs _ (h.lt h0)
/-- Numbers as the cells of a row. -/
def i64s (zs : List Int) : List Value := zs.map fun z => Value.int .i64 z
theorem i64s_length (zs : List Int) : (i64s zs).length = zs.length := by simp [i64s]
theorem i64s_cell (zs : List Int) : ∀ u ∈ i64s zs, u.oneCell' = true := by
  intro u hu; simp [i64s] at hu; obtain ⟨_, _, rfl⟩ := hu; rfl
theorem i64s_append (a b : List Int) : i64s (a ++ b) = i64s a ++ i64s b := by simp [i64s]
theorem Ints.of_own {w : World} {base : Nat} {e : TypeId} {v : Value} {zs : List Int} (h : w.ownsRow base e 1 v zs.length (i64s zs)) : Ints w v zs := by
  rcases h.2 with ⟨rfl, h0⟩ | ⟨g, cap, cur, rfl, _, _⟩
  · have : zs = [] := List.length_eq_zero_iff.1 h0
    subst this
    exact .inr ⟨0, rfl, rfl⟩
  · exact .inl ⟨⟨g, 0, none⟩, cap, rfl, fun j s hs => h.cells rfl j _ (by simp [i64s, hs])⟩
theorem Ints.of_block {w : World} {B : Nat} {cs : Array Value} {t : TypeId} {fr : Nat × Nat} {zs : List Int} (hb : w.heap[B]? = some (.cells cs t fr)) (h : cs.toList = i64s zs) (n c : Nat) (hn : n = zs.length) : Ints w (.slice (some ⟨B, 0, none⟩) n c) zs := by
  subst hn
  exact .inl ⟨_, c, rfl, fun j u hu => World.news_of_block hb j _ (by rw [h]; simp [i64s, hu])⟩

/-- append of one number, which lies in a row of its own, onto a row of the call's own, nil or not. -/
theorem wpList_append_int {P : Program} {ops : Array Oper} {rest : List Oper} {o : Oper} {a : Act} {w : World} {Q : Exit → Act → World → Prop} (hgd : o.guard = none) (s x : Operand) (t e : TypeId) (i : TypeInfo)
    (ho : o.op = .call { callee := .builtin .append, args := #[s, x], argTypes := #[t, t] }) (ht : P.underlying t = some (.slice e)) (hi : P.info? e = some i) (hz : i.zero = some (.int .i64 0)) (hsz : i.size = 1) (hb : i.bytes = 8)
    (base B c : Nat) (v : Value) (zs : List Int) (z : Int) (hs : a.eval s = v) (hx : a.eval x = .slice (some ⟨B, 0, none⟩) 1 c) (hown : w.ownsRow base e 1 v zs.length (i64s zs)) {t' : TypeId} {fr : Nat × Nat} (hB : w.heap[B]? = some (.cells #[.int .i64 z] t' fr)) (hl : zs.length + 1 ≤ 1099511627776) (hbase : base ≤ w.heap.size)
    (h : ∀ g' cap' w', w'.ownsRow base e 1 (.slice (some ⟨g', 0, none⟩) (zs.length + 1) cap') (zs ++ [z]).length (i64s (zs ++ [z])) → w.grownBy w' v.ownBlock → wpList P ops Q rest (a.put o.dst (.slice (some ⟨g', 0, none⟩) (zs.length + 1) cap')) w') :
    wpList P ops Q (o :: rest) a w := by
  obtain ⟨g', cap', w', h1, h2, h3, _⟩ := run_append_lies (P := P) w t o.type base e i (.int .i64 0) 1 8 ht hi hz hsz hb rfl (by omega) v zs.length (i64s zs) hown ⟨B, 0, none⟩ 1 c [.int .i64 z] rfl (World.news_of_block hB) (by simp [Value.oneCell']) (by omega) (by unfold maxLen; omega) (by omega) hbase w.heap.size rfl
  exact wpList_append_run hgd s x t ho _ _ _ w' hs hx h1 (h g' cap' w' (by simpa [i64s] using h2) h3)
theorem append_int_same {w wr w' : World} {base : Nat} {e : TypeId} {v : Value} {zs : List Int} (hk : Same w wr) (o : Obj) (hown : wr.ownsRow base e 1 v zs.length (i64s zs)) (hb : w.heap.size ≤ base) (hg : (wr.alloc o).grownBy w' v.ownBlock) : Same w w' :=
  (hk.alloc o).grown hg fun k e hlt => by have := (hown.lt k e).1; omega

end Go.Proofs.Ytoimhniijeafaaa
