/- A hasher as bytes come; copies into its chunk; New, filled, Add. -/
import Derived.Test.YtcbkopjklbiheaaDoorSha3
import Derived.Laws.CopyRow
import Derived.Laws.IdiomCopy
import Derived.Lib.SlBuf
namespace Go.Proofs.YtcbkopjklbiheaaDoor
open Go.RowKit
set_option linter.unusedVariables false

/-- What a hasher holds. -/
structure HS where
  s : St
  ch : List UInt8
  n : Nat
def HS.cells (h : HS) : List Value := hcells h.s h.ch h.n
def feed1 (h : HS) (b : UInt8) : HS := ⟨if h.n % 64 = 63 then mixed h.s (h.ch.set (h.n % 64) b) else h.s, h.ch.set (h.n % 64) b, h.n + 1⟩
def feed (h : HS) (bs : List UInt8) : HS := bs.foldl feed1 h
def st0 : St := ⟨1779033703, 3144134277, 1013904242, 2773480762, 1359893119, 2600822924, 528734635, 1541459225⟩
def hs0 : HS := ⟨st0, List.replicate 64 0, 0⟩
theorem feed_append (h : HS) (a b : List UInt8) : feed h (a ++ b) = feed (feed h a) b := by simp [feed]
theorem feed_len (h : HS) (bs : List UInt8) : (feed h bs).ch.length = h.ch.length ∧ (feed h bs).n = h.n + bs.length := by
  induction bs generalizing h with
  | nil => exact ⟨rfl, rfl⟩
  | cons b r ih =>
    have := ih (feed1 h b)
    have e1 : (feed1 h b).ch.length = h.ch.length := by simp [feed1]
    have e2 : (feed1 h b).n = h.n + 1 := rfl
    refine ⟨this.1.trans e1, ?_⟩
    show (feed (feed1 h b) r).n = _
    rw [this.2, e2, List.length_cons]; omega
theorem splice_cons (ch : List UInt8) (at' : Nat) (b : UInt8) (r : List UInt8) (h : at' < ch.length) : (ch.set at' b).take (at' + 1) ++ r ++ (ch.set at' b).drop (at' + 1 + r.length) = ch.take at' ++ (b :: r) ++ ch.drop (at' + (r.length + 1)) := by
  have h1 : (ch.set at' b).take (at' + 1) = ch.take at' ++ [b] := by
    rw [List.take_succ_eq_append_getElem (by simpa using h), List.take_set, List.set_eq_of_length_le (by rw [List.length_take]; omega)]
    simp
  have h2 : (ch.set at' b).drop (at' + 1 + r.length) = ch.drop (at' + (r.length + 1)) := by
    rw [List.drop_set_of_lt (by omega)]
    congr 1; omega
  rw [h1, h2]; simp
theorem feed_run (xs : List UInt8) : ∀ (h : HS), h.ch.length = 64 → xs ≠ [] → h.n % 64 + xs.length ≤ 64 →
    feed h xs = ⟨if h.n % 64 + xs.length = 64 then mixed h.s (h.ch.take (h.n % 64) ++ xs ++ h.ch.drop (h.n % 64 + xs.length)) else h.s, h.ch.take (h.n % 64) ++ xs ++ h.ch.drop (h.n % 64 + xs.length), h.n + xs.length⟩ := by
  induction xs with
  | nil => intro h _ h0; exact absurd rfl h0
  | cons b r ih =>
    intro h hl _ hle
    simp only [List.length_cons] at hle
    have hlt : h.n % 64 < h.ch.length := by omega
    by_cases hr : r = []
    · subst hr
      have e : h.ch.set (h.n % 64) b = h.ch.take (h.n % 64) ++ [b] ++ h.ch.drop (h.n % 64 + 1) := by
        have := splice_cons h.ch (h.n % 64) b [] hlt
        simp only [List.append_nil, List.length_nil, Nat.add_zero, Nat.zero_add] at this
        rw [← this, List.take_append_drop]
      show feed1 h b = _
      unfold feed1
      simp only [List.length_cons, List.length_nil, Nat.zero_add]
      rw [e]
      congr 1
      have : (h.n % 64 = 63) = (h.n % 64 + 1 = 64) := by rw [eq_iff_iff]; omega
      simp only [this]
    · have hr0 : 0 < r.length := List.length_pos_iff.2 hr
      have hne : ¬ h.n % 64 = 63 := by omega
      have hmod : (h.n + 1) % 64 = h.n % 64 + 1 := by omega
      have h1 : feed1 h b = ⟨h.s, h.ch.set (h.n % 64) b, h.n + 1⟩ := by unfold feed1; rw [if_neg hne]
      have := ih ⟨h.s, h.ch.set (h.n % 64) b, h.n + 1⟩ (by simpa using hl) hr (by simp only; omega)
      simp only [hmod] at this
      show feed (feed1 h b) r = _
      rw [h1, this, splice_cons _ _ _ _ hlt]
      simp only [List.length_cons]
      rw [show h.n % 64 + 1 + r.length = h.n % 64 + (r.length + 1) from by omega, show h.n + 1 + r.length = h.n + (r.length + 1) from by omega]

theorem hcells_splice (s : St) (ch xs : List UInt8) (n i : Nat) (hl : ch.length = 64) (h : i + xs.length ≤ 64) : (hcells s ch n).take (8 + i) ++ u8s xs ++ (hcells s ch n).drop (8 + i + xs.length) = hcells s (ch.take i ++ xs ++ ch.drop (i + xs.length)) n := by
  have h8 : (u32s s.list).length = 8 := rfl
  rw [hcells_def, hcells_def, List.take_append, List.drop_append, h8]
  rw [List.take_of_length_le (by omega), List.drop_of_length_le (by omega), Nat.add_sub_cancel_left, show 8 + i + xs.length - 8 = i + xs.length from by omega, List.nil_append]
  rw [List.take_append, List.drop_append, u8s_length, hl, show i - 64 = 0 from by omega, show i + xs.length - 64 = 0 from by omega, List.take_zero, List.append_nil, List.drop_zero]
  simp only [u8s, List.map_append, List.map_take, List.map_drop, List.append_assoc]
theorem hcells_setcount (s : St) (ch : List UInt8) (n m : Nat) (hl : ch.length = 64) : (hcells s ch n).set 72 (.int .u64 (m : Int)) = hcells s ch m := by
  have h8 : (u32s s.list).length = 8 := rfl
  unfold hcells
  rw [List.set_append_right _ _ (by rw [List.length_append, u8s_length, h8, hl]; omega), List.length_append, u8s_length, h8, hl]
  rfl

theorem Whole.row {w : World} {B : Nat} {t : TypeId} {cs ds : List Value} (h : Whole w B t cs) : Whole (w.setRow B ds.toArray) B t ds := setRow_heap w B _ _ t (0, 0) h
theorem keeps_setRow (w : World) (B : Nat) (ds : Array Value) : Keeps (fun k => k = B) w (w.setRow B ds) := ⟨rfl, rfl, rfl, by simp, fun k _ hn => setRow_other w B k ds hn⟩

/-- A copy of bytes into a block that is known whole. -/
theorem run_copy_whole {P : Program} (w : World) (dT sT ty elem : TypeId) (B o dLen dCap : Nat) (x : Value) (bs : List UInt8) (cs : List Value) (t : TypeId) (hu : P.underlying dT = some (.slice elem)) (hs : (P.info? elem).map (·.size) = some 1)
    (hw : Whole w B t cs) (hx : Bytes w x bs) (hfit : o + dLen ≤ cs.length) :
    ∃ w', (Builtin.copy_ #[dT, sT] ty #[.slice (some ⟨B, o, none⟩) dLen dCap, x]).run P w = .ok (.int .i64 ((min bs.length dLen : Nat) : Int)) w' ∧ Whole w' B t (cs.take o ++ u8s (bs.take (min bs.length dLen)) ++ cs.drop (o + min bs.length dLen)) ∧ Keeps (fun k => k = B) w w' := by
  obtain ⟨ao, c, rfl⟩ := hx.form
  have hlen : (u8s (bs.take (min bs.length dLen))).length = min bs.length dLen := by rw [u8s_length, List.length_take]; omega
  by_cases h0 : min bs.length dLen = 0
  · have hr := run_copy_none (P := P) w dT sT ty elem (some ⟨B, o, none⟩) ao dLen dCap bs.length c hu hs h0
    refine ⟨w, by rw [hr, h0]; rfl, ?_, Keeps.refl _ _⟩
    rw [h0]; simp [u8s]; exact hw
  · have ha : ∃ a, ao = some a := by
      rcases hx with ⟨a, c', e, _⟩ | ⟨c', e, e2⟩
      · simp only [Value.slice.injEq] at e; exact ⟨a, e.1⟩
      · subst e2; simp at h0
    obtain ⟨a, rfl⟩ := ha
    have hsrc : ∀ j v, (u8s (bs.take (min bs.length dLen)))[j]? = some v → w.cell? (a.add j) = some v := by
      intro j v hv
      rcases hx with ⟨a', c', e, hc⟩ | ⟨c', e, _⟩
      · simp only [Value.slice.injEq, Option.some.injEq] at e
        obtain ⟨rfl, _, _⟩ := e
        refine hc j v ?_
        have hj : j < min bs.length dLen := by
          have := (List.getElem?_eq_some_iff.1 hv).1
          rw [hlen] at this; exact this
        have e3 : u8s (bs.take (min bs.length dLen)) = (u8s bs).take (min bs.length dLen) := by simp [u8s, List.map_take]
        rw [e3, List.getElem?_take_of_lt hj] at hv
        exact hv
      · simp at e
    have hr := run_copy_row (P := P) w dT sT ty elem B o dLen dCap a bs.length c cs.toArray t (u8s (bs.take (min bs.length dLen))) hu hs hw (by rw [hlen]) hsrc (by rw [hlen, List.size_toArray]; omega) (u8s_cell _)
    rw [hlen] at hr
    exact ⟨_, hr, hw.row, keeps_setRow _ _ _⟩

theorem wpList_clear_run {P : Program} {ops : Array Oper} {rest : List Oper} {o : Oper} {a : Act} {w : World} {Q : Exit → Act → World → Prop} (hgd : o.guard = none) (x : Operand) (t : TypeId)
    (ho : o.op = .call { callee := .builtin .clear, args := #[x], argTypes := #[t] }) (v r : Value) (w' : World) (hx : a.eval x = v)
    (hr : (Builtin.clear_ #[t] o.type #[v]).run P w = .ok r w') (hK : wpList P ops Q rest (a.put o.dst r) w') : wpList P ops Q (o :: rest) a w :=
  wpList_plain hgd fun K hK' => by
    unfold Oper.wp execOp
    simp only [ho, resolve, invoke, builtin, Sem.run_bind, Sem.run_pure, Result.andThen_ok, List.map_toArray, List.map_cons, List.map_nil, hx, hr]
    exact hK' _ _ hK
theorem run_clear_whole {P : Program} (w : World) (t ty elem : TypeId) (i : TypeInfo) (B o n c : Nat) (cs : List Value) (t' : TypeId) (hu : P.underlying t = some (.slice elem)) (hi : P.info? elem = some i) (hz : i.zero = some (.int .u8 0))
    (hw : Whole w B t' cs) (hfit : n ≠ 0 → o + n ≤ cs.length) :
    ∃ w', (Builtin.clear_ #[t] ty #[.slice (some ⟨B, o, none⟩) n c]).run P w = .ok (.tuple #[]) w' ∧ (n ≠ 0 → Whole w' B t' (cs.take o ++ u8s (List.replicate n 0) ++ cs.drop (o + n))) ∧ (n = 0 → w' = w) ∧ Keeps (fun k => k = B) w w' := by
  by_cases h0 : n = 0
  · subst h0
    exact ⟨w, by simp [Builtin.clear_, run_underlying hu], fun h => absurd rfl h, fun _ => rfl, Keeps.refl _ _⟩
  · have hz2 : (Builtin.zeroCells (Value.int .u8 0).cells n).toList = u8s (List.replicate n 0) := by
      apply List.ext_getElem
      · simp [Builtin.zeroCells, u8s, Value.cells]
      · intro i h1 h2
        simp [Builtin.zeroCells, u8s, Value.cells, Nat.mod_one]
    have hst := run_storeCells_at P B o t' (u8s (List.replicate n 0)) 0 cs.toArray w hw (by rw [u8s_length, List.length_replicate]; simp; exact hfit h0) (u8s_cell _)
    refine ⟨_, ?_, fun _ => hw.row (ds := cs.take o ++ u8s (List.replicate n 0) ++ cs.drop (o + n)), fun h => absurd h h0, keeps_setRow _ _ _⟩
    obtain ⟨m, rfl⟩ : ∃ m, n = m + 1 := ⟨n - 1, by omega⟩
    simp only [Nat.add_zero, u8s_length, List.length_replicate] at hst
    simp [Builtin.clear_, run_underlying hu, zeroValue, typeInfo, hi, hz, hz2, hst]

/-- A hasher lies in block B. -/
structure HasherAt (w : World) (B : Nat) (h : HS) : Prop where
  whole : Whole w B 126 h.cells
  len : h.ch.length = 64
  small : h.n ≤ 1000000
  pos : 0 < B
theorem HasherAt.keep {S : Nat → Prop} {w w' : World} {B : Nat} {h : HS} (hh : HasherAt w B h) (k : Keeps S w w') (hB : ¬ S B) : HasherAt w' B h := ⟨hh.whole.keep k hB, hh.len, hh.small, hh.pos⟩

set_option maxHeartbeats 800000 in
theorem filled_any (B : Nat) (h : HS) (w : World) (hh : HasherAt w B h) : Calls Tryd.prog 77 #[.pointer (some ⟨B, 0, none⟩)] w fun e w' => e = .returned (.int .i64 ((h.n % 64 : Nat) : Int)) ∧ w' = w := by
  have c0 : w.cell? ⟨B, 72, none⟩ = some (.int .u64 (h.n : Int)) := hh.whole.cell (hcells_count _ _ _ hh.len)
  have hs := hh.small
  go_enter Tryd.func77, Tryd.ntmps77
  go_wp2
  go_ret
  refine ⟨?_, rfl⟩
  show Ending.returned (Value.int IntKind.i64 ((h.n : Int) % 64)) = _
  rw [Int.natCast_emod]; rfl

set_option maxRecDepth 100000 in
set_option maxHeartbeats 1600000 in
theorem new_any (w : World) (h0 : 0 < w.heap.size) : Calls Tryd.prog 54 #[] w fun e w' => e = .returned (.pointer (some ⟨w.heap.size, 0, none⟩)) ∧ HasherAt w' w.heap.size hs0 ∧ Same w w' := by
  have hz : ∀ w, (zeroValue 126).run Tryd.prog w = .ok (.agg #[.int .u32 0, .int .u32 0, .int .u32 0, .int .u32 0, .int .u32 0, .int .u32 0, .int .u32 0, .int .u32 0, .int .u8 0, .int .u8 0, .int .u8 0, .int .u8 0, .int .u8 0, .int .u8 0, .int .u8 0, .int .u8 0, .int .u8 0, .int .u8 0, .int .u8 0, .int .u8 0, .int .u8 0, .int .u8 0, .int .u8 0, .int .u8 0, .int .u8 0, .int .u8 0, .int .u8 0, .int .u8 0, .int .u8 0, .int .u8 0, .int .u8 0, .int .u8 0, .int .u8 0, .int .u8 0, .int .u8 0, .int .u8 0, .int .u8 0, .int .u8 0, .int .u8 0, .int .u8 0, .int .u8 0, .int .u8 0, .int .u8 0, .int .u8 0, .int .u8 0, .int .u8 0, .int .u8 0, .int .u8 0, .int .u8 0, .int .u8 0, .int .u8 0, .int .u8 0, .int .u8 0, .int .u8 0, .int .u8 0, .int .u8 0, .int .u8 0, .int .u8 0, .int .u8 0, .int .u8 0, .int .u8 0, .int .u8 0, .int .u8 0, .int .u8 0, .int .u8 0, .int .u8 0, .int .u8 0, .int .u8 0, .int .u8 0, .int .u8 0, .int .u8 0, .int .u8 0, .int .u64 0]) w := fun _ => by kernel_rfl
  go_enter Tryd.func54, Tryd.ntmps54
  go_wp2
  go_ret
  exact ⟨rfl, ⟨heap_alloc_new _ _, rfl, by decide, h0⟩, (Keeps.refl _ _).alloc _⟩

end Go.Proofs.YtcbkopjklbiheaaDoor
