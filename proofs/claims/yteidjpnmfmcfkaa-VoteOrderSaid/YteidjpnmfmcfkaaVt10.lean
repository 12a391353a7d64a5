/- What is chosen does not hang on the order of votes. -/
import Derived.Test.YteidjpnmfmcfkaaVt4
namespace Go.Proofs.Yteidjpnmfmcfkaa
set_option linter.unusedVariables false

theorem less_cons (a b : UInt8) (x y : List UInt8) : Op.bytesLess (a :: x) (b :: y) = true ↔ a.toNat < b.toNat ∨ (a = b ∧ Op.bytesLess x y = true) := by
  have e : (a < b) ↔ (a.toNat < b.toNat) := UInt8.lt_iff_toNat_lt
  rw [← e]
  simp [Op.bytesLess]
theorem bytesLess_trans : ∀ (a b c : List UInt8), Op.bytesLess a b = true → Op.bytesLess b c = true → Op.bytesLess a c = true
  | _, [], [], h1, h2 => by simp [Op.bytesLess] at h2
  | [], b :: y, [], h1, h2 => by simp [Op.bytesLess] at h2
  | _ :: _, b :: y, [], h1, h2 => by simp [Op.bytesLess] at h2
  | [], _, c :: z, h1, h2 => by simp [Op.bytesLess]
  | a :: x, [], c :: z, h1, h2 => by simp [Op.bytesLess] at h1
  | a :: x, b :: y, c :: z, h1, h2 => by
    rw [less_cons] at h1 h2 ⊢
    rcases h1 with h1 | ⟨rfl, h1⟩
    · rcases h2 with h2 | ⟨rfl, h2⟩
      · exact .inl (by omega)
      · exact .inl h1
    · rcases h2 with h2 | ⟨rfl, h2⟩
      · exact .inl h2
      · exact .inr ⟨rfl, bytesLess_trans x y z h1 h2⟩
theorem bytesLess_tot (a b : List UInt8) (h1 : Op.bytesLess a b = false) (h2 : Op.bytesLess b a = false) : a = b := by
  obtain ⟨c1, c2, c3, _, _⟩ := cmp_less a b
  refine c2.1 ?_
  have n1 : ¬ Lib.compareBytes a b < 0 := fun h => by rw [c1.1 h] at h1; simp at h1
  have n2 : ¬ 0 < Lib.compareBytes a b := fun h => by rw [c3.1 h] at h2; simp at h2
  omega
def AboveP (a b : VoteX) : Prop := b.normal < a.normal ∨ (a.normal = b.normal ∧ (b.gen < a.gen ∨ (a.gen = b.gen ∧ (Op.bytesLess b.head a.head = true ∨ (a.head = b.head ∧ (a.node < b.node ∨ (a.node = b.node ∧ b.commit < a.commit)))))))
theorem above_iff (a b : VoteX) : above a b = true ↔ AboveP a b := by
  unfold above AboveP
  by_cases h1 : a.normal = b.normal
  · rw [if_neg (fun k => k h1)]
    by_cases h2 : a.gen = b.gen
    · rw [if_neg (fun k => k h2)]
      by_cases h3 : a.head = b.head
      · rw [if_neg (fun k => k h3)]
        have hs : Op.bytesLess b.head a.head = false := by rw [h3]; exact bytesLess_self _
        by_cases h4 : a.node = b.node
        · rw [if_neg (fun k => k h4), decide_eq_true_iff]
          simp only [hs, Bool.false_eq_true, false_or]
          constructor
          · intro h; exact .inr ⟨h1, .inr ⟨h2, h3, .inr ⟨h4, h⟩⟩⟩
          · rintro (h | ⟨_, h | ⟨_, _, h | ⟨_, h⟩⟩⟩)
            · omega
            · omega
            · omega
            · exact h
        · rw [if_pos h4, decide_eq_true_iff]
          simp only [hs, Bool.false_eq_true, false_or]
          constructor
          · intro h; exact .inr ⟨h1, .inr ⟨h2, h3, .inl h⟩⟩
          · rintro (h | ⟨_, h | ⟨_, _, h | ⟨h, _⟩⟩⟩)
            · omega
            · omega
            · exact h
            · exact absurd h h4
      · rw [if_pos h3]
        constructor
        · intro h; exact .inr ⟨h1, .inr ⟨h2, .inl h⟩⟩
        · rintro (h | ⟨_, h | ⟨_, h | ⟨h, _⟩⟩⟩)
          · omega
          · omega
          · exact h
          · exact absurd h h3
    · rw [if_pos h2, decide_eq_true_iff]
      constructor
      · intro h; exact .inr ⟨h1, .inl h⟩
      · rintro (h | ⟨_, h | ⟨h, _⟩⟩)
        · omega
        · exact h
        · exact absurd h h2
  · rw [if_pos h1, decide_eq_true_iff]
    constructor
    · exact .inl
    · rintro (h | ⟨h, _⟩)
      · exact h
      · exact absurd h h1
theorem above_trans {a b c : VoteX} (h1 : above a b = true) (h2 : above b c = true) : above a c = true := by
  rw [above_iff] at h1 h2 ⊢
  unfold AboveP at h1 h2 ⊢
  rcases h1 with h1 | ⟨e1, h1⟩
  · rcases h2 with h2 | ⟨e2, h2⟩ <;> exact .inl (by omega)
  · rcases h2 with h2 | ⟨e2, h2⟩
    · exact .inl (by omega)
    refine .inr ⟨by omega, ?_⟩
    rcases h1 with h1 | ⟨f1, h1⟩
    · rcases h2 with h2 | ⟨f2, h2⟩ <;> exact .inl (by omega)
    · rcases h2 with h2 | ⟨f2, h2⟩
      · exact .inl (by omega)
      refine .inr ⟨by omega, ?_⟩
      rcases h1 with h1 | ⟨g1, h1⟩
      · rcases h2 with h2 | ⟨g2, h2⟩
        · exact .inl (bytesLess_trans _ _ _ h2 h1)
        · exact .inl (by rw [← g2]; exact h1)
      · rcases h2 with h2 | ⟨g2, h2⟩
        · exact .inl (by rw [g1]; exact h2)
        refine .inr ⟨g1.trans g2, ?_⟩
        rcases h1 with h1 | ⟨k1, h1⟩
        · rcases h2 with h2 | ⟨k2, h2⟩ <;> exact .inl (by omega)
        · rcases h2 with h2 | ⟨k2, h2⟩
          · exact .inl (by omega)
          · exact .inr ⟨by omega, by omega⟩
theorem above_tot {a b : VoteX} (h1 : above a b = false) (h2 : above b a = false) (hv : a.view = b.view) : a = b := by
  have n1 : ¬ AboveP a b := fun h => by rw [(above_iff a b).2 h] at h1; simp at h1
  have n2 : ¬ AboveP b a := fun h => by rw [(above_iff b a).2 h] at h2; simp at h2
  unfold AboveP at n1 n2
  have e1 : a.normal = b.normal := by
    have q1 : ¬ b.normal < a.normal := fun h => n1 (.inl h)
    have q2 : ¬ a.normal < b.normal := fun h => n2 (.inl h)
    omega
  have e2 : a.gen = b.gen := by
    have q1 : ¬ b.gen < a.gen := fun h => n1 (.inr ⟨e1, .inl h⟩)
    have q2 : ¬ a.gen < b.gen := fun h => n2 (.inr ⟨e1.symm, .inl h⟩)
    omega
  have e3 : a.head = b.head := by
    have q1 : ¬ Op.bytesLess b.head a.head = true := fun h => n1 (.inr ⟨e1, .inr ⟨e2, .inl h⟩⟩)
    have q2 : ¬ Op.bytesLess a.head b.head = true := fun h => n2 (.inr ⟨e1.symm, .inr ⟨e2.symm, .inl h⟩⟩)
    exact bytesLess_tot _ _ (Bool.eq_false_iff.2 q2) (Bool.eq_false_iff.2 q1)
  have e4 : a.node = b.node := by
    have q1 : ¬ a.node < b.node := fun h => n1 (.inr ⟨e1, .inr ⟨e2, .inr ⟨e3, .inl h⟩⟩⟩)
    have q2 : ¬ b.node < a.node := fun h => n2 (.inr ⟨e1.symm, .inr ⟨e2.symm, .inr ⟨e3.symm, .inl h⟩⟩⟩)
    omega
  have e5 : a.commit = b.commit := by
    have q1 : ¬ b.commit < a.commit := fun h => n1 (.inr ⟨e1, .inr ⟨e2, .inr ⟨e3, .inr ⟨e4, h⟩⟩⟩⟩)
    have q2 : ¬ a.commit < b.commit := fun h => n2 (.inr ⟨e1.symm, .inr ⟨e2.symm, .inr ⟨e3.symm, .inr ⟨e4.symm, h⟩⟩⟩⟩)
    omega
  cases a; cases b; simp_all
theorem above_self (a : VoteX) : above a a = false := Bool.eq_false_iff.2 fun h => by
  rw [above_iff] at h
  unfold AboveP at h
  rcases h with h | ⟨_, h | ⟨_, h | ⟨_, h | ⟨_, h⟩⟩⟩⟩
  · omega
  · omega
  · rw [bytesLess_self] at h; simp at h
  · omega
  · omega

/-- What a choice among votes is, whatever their order. -/
structure Chosen (view : Int) (l : List VoteX) (s : CS) : Prop where
  best : ∀ b, s.best = some b → b ∈ l ∧ b.view = view ∧ ∀ y ∈ l, y.view = view → above y b = false
  none : s.best = none → ∀ y ∈ l, ¬ y.view = view
  pos : 0 ≤ s.commit
  most : ∀ y ∈ l, y.view = view → y.commit ≤ s.commit
  some : s.commit = 0 ∨ ∃ y ∈ l, y.view = view ∧ y.commit = s.commit
  nodup : s.nodes.Nodup
  mem : ∀ x, x ∈ s.nodes ↔ ∃ y ∈ l, y.view = view ∧ y.node = x
theorem chosen_zero (view : Int) : Chosen view [] ⟨none, 0, []⟩ := ⟨fun b h => by simp at h, fun _ y hy => by simp at hy, Int.le_refl _, fun y hy => by simp at hy, .inl rfl, List.nodup_nil, fun x => by simp⟩
theorem Chosen.step {view : Int} {l : List VoteX} {s : CS} {v : VoteX} (h : Chosen view l s) (hv : 0 ≤ v.commit) : Chosen view (l ++ [v]) (s.step view v) := by
  have hm : ∀ y, y ∈ l ++ [v] ↔ y ∈ l ∨ y = v := fun y => by simp
  unfold CS.step
  by_cases hw : v.view = view
  · rw [if_pos hw]
    refine ⟨?_, fun e => by simp at e, ?_, ?_, ?_, ?_, ?_⟩
    · intro b hb
      simp only [Option.some.injEq] at hb
      unfold CS.up at hb
      cases hs : s.best with
      | none =>
        rw [hs] at hb
        simp only at hb
        subst hb
        refine ⟨(hm _).2 (.inr rfl), hw, fun y hy hyv => ?_⟩
        rcases (hm y).1 hy with hy | rfl
        · exact absurd hyv (h.none hs y hy)
        · exact above_self _
      | some c =>
        rw [hs] at hb
        simp only at hb
        obtain ⟨c1, c2, c3⟩ := h.best c hs
        by_cases hab : above v c = true
        · rw [if_pos hab] at hb
          subst hb
          refine ⟨(hm _).2 (.inr rfl), hw, fun y hy hyv => ?_⟩
          rcases (hm y).1 hy with hy | rfl
          · refine Bool.eq_false_iff.2 fun hyb => ?_
            have := above_trans hyb hab
            rw [c3 y hy hyv] at this
            simp at this
          · exact above_self _
        · rw [if_neg hab] at hb
          subst hb
          refine ⟨(hm _).2 (.inl c1), c2, fun y hy hyv => ?_⟩
          rcases (hm y).1 hy with hy | rfl
          · exact c3 y hy hyv
          · exact Bool.eq_false_iff.2 hab
    · have := h.pos
      simp only
      split <;> omega
    · intro y hy hyv
      simp only
      rcases (hm y).1 hy with hy | rfl
      · have := h.most y hy hyv
        split <;> omega
      · split <;> omega
    · simp only
      by_cases hc : s.commit < v.commit
      · rw [if_pos hc]
        exact .inr ⟨v, (hm v).2 (.inr rfl), hw, rfl⟩
      · rw [if_neg hc]
        rcases h.some with h0 | ⟨y, hy, e1, e2⟩
        · exact .inl h0
        · exact .inr ⟨y, (hm y).2 (.inl hy), e1, e2⟩
    · simp only
      by_cases hn : v.node ∈ s.nodes
      · rw [if_pos hn]; exact h.nodup
      · rw [if_neg hn]
        exact List.nodup_append.2 ⟨h.nodup, by simp, fun a ha b hb => by
          simp only [List.mem_singleton] at hb
          intro e
          exact hn (by rw [← hb, ← e]; exact ha)⟩
    · intro x
      simp only
      by_cases hn : v.node ∈ s.nodes
      · rw [if_pos hn, h.mem]
        constructor
        · rintro ⟨y, hy, e1, e2⟩; exact ⟨y, (hm y).2 (.inl hy), e1, e2⟩
        · rintro ⟨y, hy, e1, e2⟩
          rcases (hm y).1 hy with hy | rfl
          · exact ⟨y, hy, e1, e2⟩
          · rw [e2] at hn
            exact (h.mem x).1 hn
      · rw [if_neg hn, List.mem_append, h.mem]
        constructor
        · rintro (⟨y, hy, e1, e2⟩ | hx)
          · exact ⟨y, (hm y).2 (.inl hy), e1, e2⟩
          · simp only [List.mem_singleton] at hx
            exact ⟨v, (hm v).2 (.inr rfl), hw, hx.symm⟩
        · rintro ⟨y, hy, e1, e2⟩
          rcases (hm y).1 hy with hy | rfl
          · exact .inl ⟨y, hy, e1, e2⟩
          · exact .inr (by simp [e2])
  · rw [if_neg hw]
    have hmv : ∀ y, y ∈ l ++ [v] → y.view = view → y ∈ l := fun y hy hyv => by
      rcases (hm y).1 hy with hy | rfl
      · exact hy
      · exact absurd hyv hw
    refine ⟨fun b hb => ?_, fun e y hy hyv => h.none e y (hmv y hy hyv) hyv, h.pos, fun y hy hyv => h.most y (hmv y hy hyv) hyv, ?_, h.nodup, fun x => ?_⟩
    · obtain ⟨c1, c2, c3⟩ := h.best b hb
      exact ⟨(hm _).2 (.inl c1), c2, fun y hy hyv => c3 y (hmv y hy hyv) hyv⟩
    · rcases h.some with h0 | ⟨y, hy, e1, e2⟩
      · exact .inl h0
      · exact .inr ⟨y, (hm y).2 (.inl hy), e1, e2⟩
    · rw [h.mem]
      constructor
      · rintro ⟨y, hy, e1, e2⟩; exact ⟨y, (hm y).2 (.inl hy), e1, e2⟩
      · rintro ⟨y, hy, e1, e2⟩; exact ⟨y, hmv y hy e1, e1, e2⟩
theorem chosen_of (view : Int) (vs : List VoteX) (hv : ∀ v ∈ vs, 0 ≤ v.commit) : ∀ j, j ≤ vs.length → Chosen view (vs.take j) (csOf view (vs.take j))
  | 0, _ => by simpa [csOf] using chosen_zero view
  | j + 1, hj => by
    have h1 := chosen_of view vs hv j (by omega)
    have hl : j < vs.length := by omega
    rw [csOf_snoc (List.getElem?_eq_getElem hl), List.take_succ_eq_append_getElem hl]
    exact h1.step (hv _ (List.getElem_mem _))
theorem chosen_all (view : Int) (vs : List VoteX) (hv : ∀ v ∈ vs, 0 ≤ v.commit) : Chosen view vs (csOf view vs) := by
  have := chosen_of view vs hv vs.length (Nat.le_refl _)
  rwa [List.take_length] at this
theorem nodup_len {l m : List Int} (h : l.Nodup) (k : m.Nodup) (e : ∀ x, x ∈ l ↔ x ∈ m) : l.length = m.length :=
  ((List.perm_ext_iff_of_nodup h k).2 e).length_eq
/-- The order changes nothing. -/
theorem chosen_same {view : Int} {l m : List VoteX} {s t : CS} (h : Chosen view l s) (k : Chosen view m t) (e : ∀ y, y ∈ l ↔ y ∈ m) : s.best = t.best ∧ s.commit = t.commit ∧ s.nodes.length = t.nodes.length := by
  refine ⟨?_, ?_, nodup_len h.nodup k.nodup fun x => ?_⟩
  · cases hs : s.best with
    | none =>
      cases ht : t.best with
      | none => rfl
      | some c =>
        obtain ⟨c1, c2, _⟩ := k.best c ht
        exact absurd c2 (h.none hs c ((e c).2 c1))
    | some b =>
      obtain ⟨b1, b2, b3⟩ := h.best b hs
      cases ht : t.best with
      | none => exact absurd b2 (k.none ht b ((e b).1 b1))
      | some c =>
        obtain ⟨c1, c2, c3⟩ := k.best c ht
        rw [above_tot (c3 b ((e b).1 b1) b2) (b3 c ((e c).2 c1) c2) (b2.trans c2.symm)]
  · have h1 : s.commit ≤ t.commit := by
      rcases h.some with h0 | ⟨y, hy, e1, e2⟩
      · rw [h0]; exact k.pos
      · rw [← e2]; exact k.most y ((e y).1 hy) e1
    have h2 : t.commit ≤ s.commit := by
      rcases k.some with h0 | ⟨y, hy, e1, e2⟩
      · rw [h0]; exact h.pos
      · rw [← e2]; exact h.most y ((e y).2 hy) e1
    omega
  · rw [h.mem, k.mem]
    constructor
    · rintro ⟨y, hy, q⟩; exact ⟨y, (e y).1 hy, q⟩
    · rintro ⟨y, hy, q⟩; exact ⟨y, (e y).2 hy, q⟩
end Go.Proofs.Yteidjpnmfmcfkaa
