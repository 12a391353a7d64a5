/- The walk of NetWhole. -/
import Derived.Test.YtafgiljgefeefaaDoorStrs
import Derived.Test.YtafgiljgefeefaaDoorRow
import Derived.Test.YtafgiljgefeefaaDoorRw
import Derived.Test.YtafgiljgefeefaaDoorOst
import Derived.Test.YtafgiljgefeefaaDoorLrow
import Derived.Test.YtafgiljgefeefaaDoorNt5
import Derived.Test.YtafgiljgefeefaaDoorWm10
namespace Go.Proofs.YtafgiljgefeefaaDoor
open Go.RowKit
set_option linter.unusedVariables false

/-- The slice x reads as the numbers ss. -/
def Ints (w : World) (x : Value) (ss : List Int) : Prop :=
  (∃ a c, x = .slice (some a) ss.length c ∧ ∀ j s, ss[j]? = some s → w.cell? (a.add j) = some (.int .i64 s)) ∨ (∃ c, x = .slice none 0 c ∧ ss = [])
theorem Ints.nil (w : World) (ao : Option Addr) (c : Nat) : Ints w (.slice ao 0 c) [] := by
  cases ao with
  | none => exact .inr ⟨c, rfl, rfl⟩
  | some a => exact .inl ⟨a, c, rfl, by simp⟩
theorem Ints.keeps {S : Nat → Prop} {w w' : World} {x : Value} {ss : List Int} (h : Ints w x ss) (k : Keeps S w w') (hs : ∀ a n c, x = .slice (some a) n c → ¬ S a.block) : Ints w' x ss := by
  rcases h with ⟨a, c, rfl, hc⟩ | h
  · refine .inl ⟨a, c, rfl, fun j u hu => ?_⟩
    have h1 := hc j u hu
    have hb : (a.add j).block = a.block := by unfold Addr.add; split <;> rfl
    have hlt := World.block_lt_of_cell? w _ h1
    rw [World.cell?_of_block (w := w) (k.block _ hlt (by rw [hb]; exact hs a _ c rfl))]
    exact h1
  · exact .inr h
theorem Ints.same {w w' : World} {x : Value} {ss : List Int} (h : Ints w x ss) (k : Same w w') : Ints w' x ss := h.keeps k fun _ _ _ _ e => e
theorem Ints.lt {w : World} {a : Addr} {n c : Nat} {ss : List Int} (h : Ints w (.slice (some a) n c) ss) (h0 : ss ≠ []) : a.block < w.heap.size := by
  rcases h with ⟨a', c', h1, hc⟩ | ⟨c, h, _⟩
  · simp only [Value.slice.injEq, Option.some.injEq] at h1
    obtain ⟨rfl, _, _⟩ := h1
    cases ss with
    | nil => exact absurd rfl h0
    | cons b r =>
      have := World.block_lt_of_cell? w _ (hc 0 _ rfl)
      simpa [Addr.add] using this
  · simp at h
theorem Ints.at {w : World} {ao : Option Addr} {n c : Nat} {ss : List Int} (h : Ints w (.slice ao n c) ss) {j : Nat} (hj : j < ss.length) : ∃ a, ao = some a ∧ w.cell? (a.add j) = some (.int .i64 ss[j]) := by
  rcases h with ⟨a', c', h1, hc⟩ | ⟨c, h, h1⟩
  · simp only [Value.slice.injEq] at h1
    obtain ⟨rfl, _, _⟩ := h1
    exact ⟨_, rfl, hc j _ (by simp [hj])⟩
  · subst h1; simp at hj
/-- A slice of numbers as it lies behind calls that change the blocks S: they aren't its own. -/
theorem Ints.far {S : Nat → Prop} {w w' : World} {ao : Option Addr} {n c : Nat} {ss : List Int} (h : Ints w (.slice ao n c) ss) (hn : n = ss.length) (k : Keeps S w w') (hs : ∀ j, j < w.heap.size → ¬ S j) : Ints w' (.slice ao n c) ss := by
  by_cases h0 : ss = []
  · subst h0; subst hn; exact Ints.nil _ _ _
  · refine h.keeps k fun a n' c' e => ?_
    simp only [Value.slice.injEq] at e
    obtain ⟨rfl, _, _⟩ := e
    exact hs _ (h.lt h0)
/-- Numbers as the cells of a row. -/
def i64s (zs : List Int) : List Value := zs.map fun z => Value.int .i64 z
theorem i64s_length (zs : List Int) : (i64s zs).length = zs.length := by simp [i64s]
theorem i64s_cell (zs : List Int) : ∀ u ∈ i64s zs, u.oneCell' = true := by
  intro u hu; simp [i64s] at hu; obtain ⟨_, _, rfl⟩ := hu; rfl
theorem i64s_append (a b : List Int) : i64s (a ++ b) = i64s a ++ i64s b := by simp [i64s]
theorem Ints.of_own {w : World} {base : Nat} {e : TypeId} {v : Value} {zs : List Int} (h : w.ownsRow base e 1 v zs.length (i64s zs)) : Ints w v zs := by
  rcases h.2 with ⟨rfl, h0⟩ | ⟨g, cap, cur, rfl, _, _⟩
  · have : zs = [] := List.length_eq_zero_iff.1 h0
    subst this
    exact .inr ⟨0, rfl, rfl⟩
  · exact .inl ⟨⟨g, 0, none⟩, cap, rfl, fun j s hs => h.cells rfl j _ (by simp [i64s, hs])⟩
theorem Ints.of_block {w : World} {B : Nat} {cs : Array Value} {t : TypeId} {fr : Nat × Nat} {zs : List Int} (hb : w.heap[B]? = some (.cells cs t fr)) (h : cs.toList = i64s zs) (n c : Nat) (hn : n = zs.length) : Ints w (.slice (some ⟨B, 0, none⟩) n c) zs := by
  subst hn
  exact .inl ⟨_, c, rfl, fun j u hu => World.news_of_block hb j _ (by rw [h]; simp [i64s, hu])⟩

/-- append of one number, which lies in a row of its own, onto a row of the call's own, nil or not. -/
theorem wpList_append_int {P : Program} {ops : Array Oper} {rest : List Oper} {o : Oper} {a : Act} {w : World} {Q : Exit → Act → World → Prop} (hgd : o.guard = none) (s x : Operand) (t e : TypeId) (i : TypeInfo)
    (ho : o.op = .call { callee := .builtin .append, args := #[s, x], argTypes := #[t, t] }) (ht : P.underlying t = some (.slice e)) (hi : P.info? e = some i) (hz : i.zero = some (.int .i64 0)) (hsz : i.size = 1) (hb : i.bytes = 8)
    (base B c : Nat) (v : Value) (zs : List Int) (z : Int) (hs : a.eval s = v) (hx : a.eval x = .slice (some ⟨B, 0, none⟩) 1 c) (hown : w.ownsRow base e 1 v zs.length (i64s zs)) {t' : TypeId} {fr : Nat × Nat} (hB : w.heap[B]? = some (.cells #[.int .i64 z] t' fr)) (hl : zs.length + 1 ≤ 1099511627776) (hbase : base ≤ w.heap.size)
    (h : ∀ g' cap' w', w'.ownsRow base e 1 (.slice (some ⟨g', 0, none⟩) (zs.length + 1) cap') (zs ++ [z]).length (i64s (zs ++ [z])) → w.grownBy w' v.ownBlock → wpList P ops Q rest (a.put o.dst (.slice (some ⟨g', 0, none⟩) (zs.length + 1) cap')) w') :
    wpList P ops Q (o :: rest) a w := by
  obtain ⟨g', cap', w', h1, h2, h3, _⟩ := run_append_lies (P := P) w t o.type base e i (.int .i64 0) 1 8 ht hi hz hsz hb rfl (by omega) v zs.length (i64s zs) hown ⟨B, 0, none⟩ 1 c [.int .i64 z] rfl (World.news_of_block hB) (by simp [Value.oneCell']) (by omega) (by unfold maxLen; omega) (by omega) hbase w.heap.size rfl
  exact wpList_append_run hgd s x t ho _ _ _ w' hs hx h1 (h g' cap' w' (by simpa [i64s] using h2) h3)
theorem append_int_same {w wr w' : World} {base : Nat} {e : TypeId} {v : Value} {zs : List Int} (hk : Same w wr) (o : Obj) (hown : wr.ownsRow base e 1 v zs.length (i64s zs)) (hb : w.heap.size ≤ base) (hg : (wr.alloc o).grownBy w' v.ownBlock) : Same w w' :=
  (hk.alloc o).grown hg fun k e hlt => by have := (hown.lt k e).1; omega

end Go.Proofs.YtafgiljgefeefaaDoor
namespace Go.Proofs.YtafgiljgefeefaaDoor
open Go.RowKit
set_option linter.unusedVariables false
section
variable {P : Program} {ops : Array Oper} {rest : List Oper} {a : Act} {w : World} {Q : Exit → Act → World → Prop}
theorem unwanted_undef2 {o : Oper} {tmps : Array Value} (j d : Nat) (b : Bool) (hg : o.guard = some (j, b)) (hd : (ops[j]?).bind (·.dst) = some d) (h : tmps[d]?.getD undef = undef) : Region.wanted o (yielded ops tmps) = false := by
  unfold Region.wanted
  rw [hg]
  cases hq : tmps[d]? with
  | none => simp [yielded, hd, hq]
  | some v => rw [hq] at h; simp at h; subst h; simp [yielded, hd, hq, undef]
theorem wpList_skip_by {o : Oper} (j d : Nat) (b : Bool) (hg : o.guard = some (j, b)) (hd : (ops[j]?).bind (·.dst) = some d) (he : a.tmps[d]?.getD undef = .bool (!b)) (h : wpList P ops Q rest (a.put o.dst undef) w) : wpList P ops Q (o :: rest) a w :=
  wpList_skip (unwanted_by j d b hg hd he) h
theorem wpList_skip_un {o : Oper} (j d : Nat) (b : Bool) (hg : o.guard = some (j, b)) (hd : (ops[j]?).bind (·.dst) = some d) (he : a.tmps[d]?.getD undef = undef) (h : wpList P ops Q rest (a.put o.dst undef) w) : wpList P ops Q (o :: rest) a w :=
  wpList_skip (unwanted_undef2 j d b hg hd he) h
theorem wpList_load_row_g {o : Oper} (hg : o.guard = none) (ty : TypeId) (x : Operand) (ho : o.op = .load ty x)
    (g : Nat) (hx : a.eval x = .pointer (some ⟨g, 0, none⟩)) (t : TypeId) (cs : Array Value) (fr : Nat × Nat) (d : TypeDesc) (hh : w.heap[g]? = some (.cells cs t fr))
    (hu : P.underlying ty = some d) (hd : (match d with | .struct _ | .array _ _ => true | _ => false) = true) (hi : (P.info? ty).map (·.size) = some cs.size)
    (h : wpList P ops Q rest (a.put o.dst (.agg cs)) w) : wpList P ops Q (o :: rest) a w :=
  wpList_load_row_w (by simp [Region.wanted, hg]) ty x ho g hx t cs fr d hh hu hd hi h
theorem wpList_load_row_by {o : Oper} (ty : TypeId) (x : Operand) (ho : o.op = .load ty x) (hw : Region.wanted o (yielded ops a.tmps) = true)
    (g : Nat) (hx : a.eval x = .pointer (some ⟨g, 0, none⟩)) (t : TypeId) (cs : Array Value) (fr : Nat × Nat) (d : TypeDesc) (hh : w.heap[g]? = some (.cells cs t fr))
    (hu : P.underlying ty = some d) (hd : (match d with | .struct _ | .array _ _ => true | _ => false) = true) (hi : (P.info? ty).map (·.size) = some cs.size)
    (h : wpList P ops Q rest (a.put o.dst (.agg cs)) w) : wpList P ops Q (o :: rest) a w :=
  wpList_load_row_w hw ty x ho g hx t cs fr d hh hu hd hi h
theorem wpList_neq_by {o : Oper} (s x : Operand) (t r : TypeId) (ho : o.op = .binOp .neq t s x r) (hw : Region.wanted o (yielded ops a.tmps) = true) (X Y : Array Value) (b : Bool) (hs : a.eval s = .agg X) (hx : a.eval x = .agg Y) (hm : P.eqGuardType P.depth t = false)
    (hr : ∀ wz, (Op.equalIn 10000 t (.agg X) (.agg Y)).run P wz = .ok b wz) (hK : wpList P ops Q rest (a.put o.dst (.bool (!b))) w) : wpList P ops Q (o :: rest) a w :=
  wpList_neq_is hw s x t r ho X Y b hs hx hm hr hK
end
end Go.Proofs.YtafgiljgefeefaaDoor
namespace Go.Proofs.YtafgiljgefeefaaDoor
open Go.ChangeShapes Go.WideShapes Go.ChangeAt Go.RowKit Go.Deep
set_option linter.unusedVariables false

def MsgsAt (w : World) (ao : Option Addr) (ms : List Msg) : Prop := ms = [] ∨ ∃ g off, ao = some ⟨g, off, none⟩ ∧ ∀ j (h : j < ms.length), w.rangeAt g (off + j * 53) ms[j].cells ∧ MsgIn w ms[j]
theorem MsgsAt.at {w : World} {ao : Option Addr} {ms : List Msg} (h : MsgsAt w ao ms) {j : Nat} (hj : j < ms.length) : ∃ g off, ao = some ⟨g, off, none⟩ ∧ w.rangeAt g (off + j * 53) ms[j].cells ∧ MsgIn w ms[j] := by
  rcases h with h | ⟨g, off, e, h⟩
  · subst h; simp at hj
  · exact ⟨g, off, e, h j hj⟩
section
variable {H : Type} {enc : TypeId × Value → H}
theorem open_msgs_trod {W : World} {v : Value} {fuel : Nat} {x : DataW H × List MemPlace} (hf : DataW.trod enc Tryd.prog W 0 (fun _ => true) true fuel 27 [v] = some x) :
    ∃ ao cap ms, v = .slice ao ms.length cap ∧ MsgsAt W ao ms ∧ ms.length ≤ cap ∧ cap ≤ maxLen := by
  rcases open_slice Tryd.underlying27 hf with ⟨hcs, _⟩ | ⟨a, len, cap, m, n, DD, PP, hcs, _, hl, hm, hmm, _, hx⟩
  · simp only [List.cons.injEq, and_true] at hcs
    subst hcs
    exact ⟨none, 0, [], rfl, .inl rfl, Nat.le_refl _, by unfold maxLen; omega⟩
  · simp only [List.cons.injEq, and_true] at hcs
    subst hcs
    simp only [if_true] at hmm
    subst hmm
    have each : ∀ i, i < len → ∃ k : Msg, MsgIn W k ∧ ∀ j u, k.cells[j]? = some u → W.cell? (a.add (i * 53 + j)) = some u := by
      intro i hi
      obtain ⟨cs', k1, k2⟩ := hx i (by omega)
      rw [wm_cellsMsg] at k1
      obtain ⟨k, h1, rfl⟩ := open_msg_trod k2
      obtain ⟨_, hlen, hcell⟩ := World.cells?_some k1
      refine ⟨k, h1, fun j u hu => ?_⟩
      have hj := (List.getElem?_eq_some_iff.1 hu).1
      rw [k.cells_length h1.hd] at hj
      have := hcell j (by omega)
      rw [wm_add_add] at this
      rw [this]
      obtain ⟨h3, h4⟩ := List.getElem?_eq_some_iff.1 hu
      rw [← h4]
      simp
    obtain ⟨f, hfn⟩ := choose_rows zeroM each
    refine ⟨some a, _, (List.range len).map f, by rw [List.length_map, List.length_range], ?_, by simp; omega, hm⟩
    by_cases hz : len = 0
    · subst hz; exact .inl rfl
    · have hsp : a.spot = none := by
        have h := (hfn 0 (by omega)).2 0 _ rfl
        have ha : a.add (0 * 53 + 0) = a := rfl
        rw [ha] at h
        cases hs : a.spot with
        | none => rfl
        | some s =>
          simp only [World.cell?, hs] at h
          split at h <;> simp at h
      obtain ⟨g, off, spot⟩ := a
      simp only at hsp
      subst hsp
      refine .inr ⟨g, off, rfl, fun j hj => ?_⟩
      have hj' : j < len := by simpa using hj
      obtain ⟨q1, q4⟩ := hfn j hj'
      have e1 : ((List.range len).map f)[j] = f j := by simp
      rw [e1]
      refine ⟨fun i u hu => ?_, q1⟩
      have := q4 i u hu
      rw [add_at] at this
      rwa [Nat.add_assoc]
set_option maxRecDepth 100000 in
theorem open_msgs {W : World} {base : Nat} {v : Value} {d : DataW H} {ps : List MemPlace} (hok : Value.okWide Tryd.prog W .any base 27 v) (h : DataW.Trod enc Tryd.prog W 0 (fun _ => true) true 27 v d ps) :
    ∃ ao cap ms, v = .slice ao ms.length cap ∧ MsgsAt W ao ms ∧ ms.length ≤ cap ∧ cap ≤ maxLen := by
  obtain ⟨a0, len0, cap0, rfl⟩ := okWide_slice Tryd.underlying27 hok
  obtain ⟨fuel, hf⟩ := h
  exact open_msgs_trod (by simpa [Value.cells] using hf)
theorem open_ints_w {W : World} {base : Nat} {t e : TypeId} {v : Value} {P : Program} {d : DataW H} {ps : List MemPlace} (ht : P.underlying t = some (.slice e)) (he : P.underlying e = some (.int .i64)) (hc : P.cellsOf e = 1)
    (hok : Value.okWide P W .any base t v) (h : DataW.Trod enc P W 0 (fun _ => true) true t v d ps) :
    ∃ zs ao cap, v = .slice ao zs.length cap ∧ Ints W v zs := by
  obtain ⟨a0, len, cap, rfl⟩ := okWide_slice ht hok
  obtain ⟨fuel, hf⟩ := h
  have hf' : DataW.trod enc P W 0 (fun _ => true) true fuel t [.slice a0 len cap] = some (d, ps) := by simpa [Value.cells] using hf
  rcases Go.ChangeShapes.open_ints ht he hc hf' with ⟨hcs, hx⟩ | ⟨a, len, cap, zs, hcs, _, hl, hm, hz, hx, hcell, hwz⟩
  · simp only [List.cons.injEq, and_true] at hcs
    rw [hcs]
    exact ⟨[], none, 0, rfl, Ints.nil _ _ _⟩
  · simp only [List.cons.injEq, and_true] at hcs
    rw [hcs]
    simp only [if_true] at hz
    have hlen : (zs.take len).length = len := by simp; omega
    refine ⟨zs.take len, some a, cap, by rw [hlen], .inl ⟨a, cap, by rw [hlen], fun j u hu => ?_⟩⟩
    have hj : j < len := by
      have := (List.getElem?_eq_some_iff.1 hu).1
      rw [hlen] at this; exact this
    have hjz : j < zs.length := by omega
    rw [hcell j hjz]
    have e2 : (zs.take len)[j]? = some zs[j] := by simp [hj, hjz]
    rw [e2] at hu
    rw [List.getD_eq_getElem?_getD, List.getElem?_eq_getElem hjz, Option.getD_some, Option.some.inj hu]
end

def mflat (ms : List Msg) : List Value := ms.flatMap Msg.cells
theorem mflat_len (ms : List Msg) (h : ∀ m ∈ ms, m.hd.length = 32) : (mflat ms).length = ms.length * 53 := by
  unfold mflat
  induction ms with
  | nil => rfl
  | cons m r ih =>
    rw [List.flatMap_cons, List.length_append, m.cells_length (h m (by simp)), ih (fun k hk => h k (by simp [hk])), List.length_cons]
    omega
theorem mflat_get (ms : List Msg) (h : ∀ m ∈ ms, m.hd.length = 32) : ∀ (j : Nat) (hj : j < ms.length) (i : Nat) (v : Value), ms[j].cells[i]? = some v → (mflat ms)[j * 53 + i]? = some v := by
  unfold mflat
  induction ms with
  | nil => intro j hj; simp at hj
  | cons q r ih =>
    intro j hj i v hv
    have hq := q.cells_length (h q (by simp))
    rcases j with _ | j
    · simp only [List.getElem_cons_zero] at hv
      have hi := (List.getElem?_eq_some_iff.1 hv).1
      rw [List.flatMap_cons, Nat.zero_mul, Nat.zero_add, List.getElem?_append_left hi]; exact hv
    · have := ih (fun k hk => h k (by simp [hk])) j (by simpa using hj) i v (by simpa using hv)
      rw [List.flatMap_cons, List.getElem?_append_right (by omega), hq, show (j + 1) * 53 + i - 53 = j * 53 + i from by omega]
      exact this
theorem Tryd.infoMsgN : (Tryd.prog.info? 45).map (fun i => (i.zero, i.size, i.bytes)) = some (some (.agg (zeroM.cells).toArray), 53, 296) := by kernel_rfl
/-- A row of messages of a law's own, each as it was at entry. -/
structure SentAt (w0 w : World) (lo : Nat) (so : Option Addr) (sc : Nat) (ms : List Msg) : Prop where
  own : w.ownsRow lo 45 53 (.slice so ms.length sc) ms.length (mflat ms)
  each : ∀ m ∈ ms, MsgIn w0 m
theorem SentAt.netK {w0 w w' : World} {lo : Nat} {so : Option Addr} {sc : Nat} {ms : List Msg} (h : SentAt w0 w lo so sc ms) (k : NetK w w') : SentAt w0 w' lo so sc ms := ⟨k.keepOwn h.own (by decide) (by decide), h.each⟩
theorem SentAt.same {w0 w w' : World} {lo : Nat} {so : Option Addr} {sc : Nat} {ms : List Msg} (h : SentAt w0 w lo so sc ms) (k : Same w w') : SentAt w0 w' lo so sc ms := ⟨own_keeps k h.own (fun _ _ e => e), h.each⟩
theorem SentAt.at {w0 w : World} {lo : Nat} {so : Option Addr} {sc : Nat} {ms : List Msg} (h : SentAt w0 w lo so sc ms) {j : Nat} (hj : j < ms.length) : ∃ g, so = some ⟨g, 0, none⟩ ∧ ∀ w', Same w w' → w'.rangeAt g (j * 53) ms[j].cells := by
  rcases h.own.2 with ⟨e, h0⟩ | ⟨g, cap, cur, e, _⟩
  · omega
  · simp only [Value.slice.injEq] at e
    obtain ⟨rfl, _, rfl⟩ := e
    refine ⟨g, rfl, fun w' k i v hv => ?_⟩
    have h1 := (h.same k).own.cells rfl _ _ (mflat_get ms (fun m hm => (h.each m hm).hd) j hj i v hv)
    rwa [add_at, Nat.zero_add] at h1
theorem sent_append {w0 w : World} {lo : Nat} {so : Option Addr} {sc : Nat} {ms : List Msg} {m : Msg} {G : Nat} (h : SentAt w0 w lo so sc ms) (hm : MsgIn w0 m) (hl : ms.length ≤ 1000) (hlit : w.heap[G]? = some (.cells m.cells.toArray 45 (0, 0))) (hlo : lo ≤ w.heap.size) :
    ∃ g cp w'', (Builtin.append_ #[27, 27] 27 #[.slice so ms.length sc, .slice (some ⟨G, 0, none⟩) 1 1]).run Tryd.prog w = .ok (.slice (some ⟨g, 0, none⟩) (ms.length + 1) cp) w'' ∧ SentAt w0 w'' lo (some ⟨g, 0, none⟩) cp (ms ++ [m]) ∧ Keeps (fun q => (.slice so ms.length sc : Value).ownBlock = some q) w w'' := by
  obtain ⟨ie, hie, hz0, hz1, hz2⟩ := info_partsW Tryd.infoMsgN
  obtain ⟨g, cp, w'', hrun, ho, hg, hat, _⟩ := run_append_lies (P := Tryd.prog) w 27 27 lo 45 ie _ 53 296 Tryd.underlying27 hie hz0 hz1 hz2 (by simp [Value.cells, zeroM.cells_length rfl]) (by omega) (.slice so ms.length sc) ms.length (mflat ms) h.own ⟨G, 0, none⟩ 1 1 m.cells (by rw [m.cells_length hm.hd]) (fun q u hu => by
    rw [Addr.add_mid, cell_of_row _ _ _ _ _ _ hlit]; simpa using hu) (fun u hu => (Array.all_eq_true_iff_forall_mem.1 m.cells_all) u (by simpa using hu)) (by omega) (by unfold maxLen; omega) (by omega) hlo w.heap.size rfl
  refine ⟨g, cp, w'', hrun, ⟨?_, fun x hx => ?_⟩, (Keeps.refl _ _).grown hg (fun k e _ => e)⟩
  · have e1 : mflat (ms ++ [m]) = mflat ms ++ m.cells := by simp [mflat]
    rw [List.length_append, e1]; exact ho
  · rcases List.mem_append.1 hx with hx | hx
    · exact h.each x hx
    · rw [List.mem_singleton] at hx; subst hx; exact hm
/-- A net beside a row of messages of one's own. -/
theorem NetAt.besideSent {w00 w0 w w' : World} {N : Nat} {tA : Option Addr} {tc : Nat} {bl : List (Value × List UInt8)} {ns ms : List Msg} {lo : Nat} {so : Option Addr} {sc : Nat} (h : NetAt w0 w N tA tc bl ns) (s : SentAt w00 w lo so sc ms) (hlo : w0.heap.size ≤ lo) (k : Keeps (fun q => (.slice so ms.length sc : Value).ownBlock = some q) w w') : NetAt w0 w' N tA tc bl ns :=
  h.keep k (fun q e => .inr ⟨by
    obtain ⟨cur, hc⟩ := own_typ s.own e
    exact ⟨cur, _, hc, by decide, by decide, by decide⟩, by have := (s.own.lt q e).1; omega⟩)
end Go.Proofs.YtafgiljgefeefaaDoor
namespace Go.Proofs.YtafgiljgefeefaaDoor
open Go.RowKit
set_option linter.unusedVariables false

theorem Msg.Good.nsLe {m : Msg} (h : m.Right) : m.ns.length ≤ 140737488351232 ∧ m.hs.length ≤ 140737488351232 ∧ m.bs.length ≤ 140737488351232 := by
  have h1 := h.hs
  have h2 := h.bs
  have h3 : m.ns.length ≤ 6 := by
    by_cases k2 : m.k = 2
    · exact (h.ansR k2).2.2.2.1
    · rw [(h.ansBlank k2).2.2.2]; simp
  omega
set_option maxRecDepth 100000 in
set_option maxHeartbeats 51200000 in
theorem whole_any (ao co dO : Option Addr) (cp cc dc : Nat) (ms : List Msg) (ks ds : List Int) (w : World) (hm : MsgsAt w ao ms) (hk : Ints w (.slice co ks.length cc) ks) (hd : Ints w (.slice dO ds.length dc) ds) (hN : Nums w) :
    Calls Tryd.prog 4 #[.slice ao ms.length cp, .slice co ks.length cc, .slice dO ds.length dc] w fun e w' => e = .returned (.bool true) ∧ Same w w' := by
  have HZM := Lib.hid Tryd.zeroMsgW
  have HM := Lib.hid hm
  have HK := Lib.hid hk
  have HD := Lib.hid hd
  have HNUM := Lib.hid hN
  obtain ⟨L, hL⟩ : ∃ L, ms.length = L := ⟨_, rfl⟩
  obtain ⟨K, hK⟩ : ∃ K, ks.length = K := ⟨_, rfl⟩
  obtain ⟨D, hD⟩ : ∃ D, ds.length = D := ⟨_, rfl⟩
  rw [hK] at HK
  rw [hD] at HD
  rw [hL, hK, hD]
  have HL := Lib.hid hL
  have HKL := Lib.hid hK
  have HDL := Lib.hid hD
  clear hm hk hd hN hL hK hD
  go_enter Tryd.func4, Tryd.ntmps4
  go_wp2_with fail
  ((with_reducible refine (speaks24 _ HNUM.out).mono ?_); rintro e w1 ⟨rfl, hk1⟩)
  have HK1 := Lib.hid hk1
  have HNUM1 : Hid (Nums w1) := Lib.hid (HNUM.out.keep hk1 (fun e => e))
  clear hk1
  by_cases b1 : 20 < L
  · have hb1 : (20 : Int) < (L : Int) := by omega
    clear b1
    go_wp2
    go_ret
    exact ⟨rfl, HK1.out⟩
  have hb1 : ¬ (20 : Int) < (L : Int) := by omega
  by_cases b2 : 20 < K
  · have hb2 : (20 : Int) < (K : Int) := by omega
    clear b2
    go_wp2
    go_ret
    exact ⟨rfl, HK1.out⟩
  have hb2 : ¬ (20 : Int) < (K : Int) := by omega
  by_cases b3 : 20 < D
  · have hb3 : (20 : Int) < (D : Int) := by omega
    clear b3
    go_wp2
    go_ret
    exact ⟨rfl, HK1.out⟩
  have hb3 : ¬ (20 : Int) < (D : Int) := by omega
  have hL20 : L ≤ 20 := by omega
  have hK20 : K ≤ 20 := by omega
  have hD20 : D ≤ 20 := by omega
  clear b1 b2 b3
  go_wp2_with fail
  ((with_reducible refine (netNew_any _).mono ?_); rintro e w2 ⟨rfl, hn2, hk2⟩)
  have HK2 : Hid (Same w w2) := Lib.hid (HK1.out.trans hk2 (fun _ _ e => e))
  obtain ⟨N, hN⟩ : ∃ N, w1.heap.size = N := ⟨_, rfl⟩
  have HN1 := Lib.hid hN
  rw [hN] at hn2 ⊢
  have HN2 := Lib.hid hn2
  obtain ⟨w3, hw3⟩ : ∃ w3, w2.alloc (.cells #[] 45) = w3 := ⟨_, rfl⟩
  have hk3 : Same w2 w3 := by rw [← hw3]; exact (Keeps.refl _ _).alloc _
  have HN3 := Lib.hid (hn2.keepSame hk3)
  obtain ⟨lo, hlo⟩ : ∃ lo, w2.heap.size = lo := ⟨_, rfl⟩
  have HS3 : Hid (SentAt w w3 lo (some ⟨lo, 0, none⟩) 0 []) := Lib.hid ⟨by
    rw [← hw3, ← hlo]
    have := World.ownsRow_made (base := w2.heap.size) (e := 45) (size := 53) w2 #[] 0 (Nat.le_refl _) (by unfold maxLen; omega) (by simp)
    simpa [mflat] using this, fun x e => (by cases e)⟩
  have HLO : Hid (w1.heap.size ≤ lo ∧ lo ≤ w3.heap.size ∧ N < lo) := Lib.hid (by
    have h1 := hn2.obj.lt
    have h2 := hk3.size
    have h3 := hk2.size
    omega)
  clear hn2 hk2 hk3 hN
  have hzm := HZM.out
  obtain ⟨ie, hie, hz0, hz1, hz2⟩ := info_partsW Tryd.infoMsgN
  have HZI := Lib.hid hz0
  clear hz0
  go_wp2_with fail
  clear hw3 hlo
  go_loopw [44, 8] (fun i s wr => ∃ (j : Nat) (so : Option Addr) (sc : Nat) (sms : List Msg) (tA : Option Addr) (tc : Nat) (bl : List (Value × List UInt8)), j ≤ L ∧ i = .int .i64 j ∧ s = .slice so sms.length sc ∧ sms.length ≤ j ∧ Hid (NetAt w1 wr N tA tc bl sms) ∧ Hid (SentAt w wr lo so sc sms) ∧ Hid (lo ≤ wr.heap.size)) (fun i _ _ => L - (intOf i).toNat)
  case atStart => exact ⟨0, some ⟨_, 0, none⟩, 0, [], _, _, _, by omega, rfl, rfl, by simp, HN3, HS3, Lib.hid HLO.out.2.1⟩
  case round =>
    obtain ⟨j, so, sc, sms, tA, tc, bl, hj, rfl, rfl, hsl, HN, HS, HLOR⟩ := hrel
    by_cases hlt : j < L
    · have hjn : (j : Int) < (L : Int) := by omega
      have hj0 : (0 : Int) ≤ (j : Int) := by omega
      have hjm : j < ms.length := by have := HL.out; omega
      obtain ⟨g, off, rfl, hrng, hin⟩ := HM.out.at hjm
      have hsw : Same w wr := HK1.out.trans HN.out.same (fun _ _ e => e)
      have HRG := Lib.hid (rangeW_same hrng hsw)
      have HIN := Lib.hid hin
      generalize ms[j] = m at HRG HIN
      have HD11 : Hid (m.hd.length = 32) := Lib.hid HIN.out.hd
      have HSW := Lib.hid hsw
      have HSZ : Hid ((Tryd.prog.info? 45).map (·.size) = some m.cells.length) := Lib.hid (by rw [m.cells_length HIN.out.hd]; exact Tryd.sizeMsg)
      obtain ⟨G11, hG11⟩ : ∃ G, wr.heap.size = G := ⟨_, rfl⟩
      obtain ⟨w11a, hw11a⟩ : ∃ wa, wr.alloc (.cells zeroM.cells.toArray 45) = wa := ⟨_, rfl⟩
      have HZ11 : Hid (w11a.heap[G11]? = some (.cells zeroM.cells.toArray 45 (0, 0))) := Lib.hid (by rw [← hw11a, ← hG11]; exact heap_alloc_new wr _)
      obtain ⟨w11, hw11⟩ : ∃ w11, w11a.setRow G11 m.cells.toArray = w11 := ⟨_, rfl⟩
      have HW11 := Lib.hid hw11
      have hk11 : Same wr w11 := by rw [← hw11, ← hw11a]; exact ((Keeps.refl _ _).alloc _).setRow _ _ (.inl (by omega))
      have HM11 : Hid (Whole w11 G11 45 m.cells) := Lib.hid (by rw [← hw11]; exact setRow_heap _ _ _ _ _ _ HZ11.out)
      have HR11 : Hid (w11.heap[G11]? = some (.cells m.cells.toArray 45 (0, 0))) := Lib.hid HM11.out
      have HS11 := Lib.hid (Tryd.sizeMsgOf m HD11.out)
      have HE11 : Hid (zeroM.cells.toArray.size = m.cells.toArray.size) := Lib.hid (by rw [List.size_toArray, List.size_toArray, m.cells_length HD11.out, zeroM.cells_length rfl])
      have HA11 : Hid (m.cells.toArray.all (·.oneCell') = true) := Lib.hid m.cells_all
      have HK11S := Lib.hid hk11.size
      have HSW11 : Hid (Same w w11) := Lib.hid (hsw.trans hk11 (fun _ _ e => e))
      have HN11 := Lib.hid (HN.out.keepSame hk11)
      have HS11' := Lib.hid (HS.out.same hk11)
      have HGR := Lib.hid (greatMsg_any m w11 (HIN.out.same HSW11.out))
      unfold GreatM at HGR
      clear hrng hin hsw hk11 hw11 hjm
      go_wp2_with (first
        | (refine wpList_load_mid (by rfl) 45 (.tmp 46) (by rfl) g (off + j * 53) (by rfl) m.cells _ HRG.out Tryd.underlying45 rfl HSZ.out ?_)
        | ((with_reducible refine wpList_store_row ?_ 45 (.tmp 10) (.tmp 47) ?_ G11 m.cells.toArray ?_ ?_ 45 zeroM.cells.toArray HZ11.out HS11.out HE11.out HA11.out ?_); rfl; rfl; rfl; rfl; rw [HW11.out])
        | ((with_reducible refine wpList_load_row_w ?_ 45 (.tmp 10) ?_ G11 ?_ 45 m.cells.toArray (0, 0) _ HR11.out Tryd.underlying45 ?_ HS11.out ?_); rfl; rfl; rfl; rfl))
      clear hG11 hw11a
      ((with_reducible refine HGR.out.mono ?_); rintro e w12 ⟨b, rfl, hk12, _⟩)
      have HLOW : Hid (lo ≤ w12.heap.size) := Lib.hid (Nat.le_trans HLOR.out (Nat.le_trans HK11S.out hk12.size))
      have HSW12 : Hid (Same w w12) := Lib.hid (HSW11.out.trans hk12 (fun _ _ e => e))
      have HN12 := Lib.hid (HN11.out.keepSame hk12)
      have HS12 := Lib.hid (HS11'.out.same hk12)
      have HR12 : Hid (w12.heap[G11]? = some (.cells m.cells.toArray 45 (0, 0))) := Lib.hid (hk12.obj HR11.out (fun e => e))
      clear hk12
      cases b with
      | true =>
        go_wp2
        go_ret
        exact ⟨rfl, HSW12.out⟩
      | false =>
      go_wp2_with ((with_reducible refine wpList_load_row_w ?_ 45 (.tmp 10) ?_ G11 ?_ 45 m.cells.toArray (0, 0) _ HR12.out Tryd.underlying45 ?_ HS11.out ?_); rfl; rfl; rfl; rfl)
      ((with_reducible refine (netSend_any m w12 HN12.out (HIN.out.same HSW12.out) HNUM1.out (by omega)).mono ?_); rintro e w13 ⟨hk13, tB, td, bm, ns, er, rfl, hn13, hr13⟩)
      have HS13 := Lib.hid (HS12.out.netK hk13)
      have HR13 : Hid (Whole w13 G11 45 m.cells) := Lib.hid (hk13.keepWhole HR12.out (by decide) (by decide))
      have hbad : (er = 1 ∨ er = 220) ∧ ns = sms ∨ er = 0 ∧ ns = sms ++ [m] := by
        rcases hr13 with ⟨_, _, h1, h2⟩ | ⟨_, h1, h2⟩ | ⟨_, _, h1, h2⟩
        · exact .inr ⟨h1, h2⟩
        · exact .inl ⟨.inl h1, h2⟩
        · exact .inl ⟨.inr h1, h2⟩
      have HLO13 : Hid (lo ≤ w13.heap.size) := Lib.hid (by have h4 := hk13.size; have h5 := HLOW.out; omega)
      clear hk13 hr13
      rcases hbad with ⟨he, rfl⟩ | ⟨rfl, rfl⟩
      · have HN13 := Lib.hid hn13
        have hne : ((er : Int) == 0) = false := by rcases he with rfl | rfl <;> rfl
        clear hn13
        rcases he with rfl | rfl
        · go_wp2
          go_roundw
          case rel => exact ⟨j + 1, so, sc, _, tB, td, bm, by omega, by go_num, rfl, by omega, HN13, HS13, HLO13⟩
          case measure => simp [intOf]; omega
        · go_wp2
          go_roundw
          case rel => exact ⟨j + 1, so, sc, _, tB, td, bm, by omega, by go_num, rfl, by omega, HN13, HS13, HLO13⟩
          case measure => simp [intOf]; omega
      have HN13 := Lib.hid hn13
      obtain ⟨w14, hw14⟩ : ∃ w14, w13.alloc (.cells m.cells.toArray 45) = w14 := ⟨_, rfl⟩
      have HW14 := Lib.hid hw14
      have hk14 : Same w13 w14 := by rw [← hw14]; exact (Keeps.refl _ _).alloc _
      have hlit : w14.heap[w13.heap.size]? = some (.cells m.cells.toArray 45 (0, 0)) := by rw [← hw14]; exact heap_alloc_new w13 _
      have HN14 := Lib.hid (hn13.keepSame hk14)
      have HS14 := Lib.hid (HS13.out.same hk14)
      obtain ⟨g', cp', w15, hrun, hs15, hk15⟩ := sent_append HS14.out HIN.out (by omega) hlit (Nat.le_trans HLO13.out hk14.size)
      have HLO15 : Hid (lo ≤ w15.heap.size) := Lib.hid (Nat.le_trans HLO13.out (Nat.le_trans hk14.size hk15.size))
      have HN15 := Lib.hid (HN14.out.besideSent HS14.out HLO.out.1 hk15)
      have HS15 := Lib.hid hs15
      have HRUN := Lib.hid hrun
      have HR13' : Hid (w13.heap[G11]? = some (.cells m.cells.toArray 45 (0, 0))) := Lib.hid HR13.out
      have hcs : m.cells.toArray.size = 53 := by rw [List.size_toArray, m.cells_length HD11.out]
      have HCS := Lib.hid hcs
      clear hn13 hk14 hlit hrun hs15 hk15 hcs
      go_wp2_with (first
        | ((with_reducible refine wpList_load_row_w ?_ 45 (.tmp 10) ?_ G11 ?_ 45 m.cells.toArray (0, 0) _ HR13'.out Tryd.underlying45 ?_ HS11.out ?_); rfl; rfl; rfl; rfl)
        | ((with_reducible refine wpList_buildOne ?_ 27 45 (.tmp 55) ?_ m.cells.toArray ie _ ?_ Tryd.underlying27 hie HZI.out ?_ ?_ ?_ ?_); rfl; rfl; rfl; (rw [hz1, HCS.out]); (rw [HCS.out]; omega); (rw [HCS.out]; omega); (rw [HW14.out]))
        | ((with_reducible refine wpList_append_run ?_ (.tmp 54) (.tmp 56) 27 ?_ (.slice so sms.length sc) (.slice (some ⟨w13.heap.size, 0, none⟩) 1 1) _ w15 ?_ ?_ HRUN.out ?_); rfl; rfl; rfl; rfl))
      go_roundw
      case rel => exact ⟨j + 1, _, _, sms ++ [m], tB, td, bm, by omega, by go_num, by rw [List.length_append]; rfl, by rw [List.length_append, List.length_singleton]; omega, HN15, HS15, HLO15⟩
      case measure => simp [intOf]; omega
    · obtain rfl : j = L := by omega
      have hjn : ¬ (j : Int) < (j : Int) := by omega
      obtain ⟨wp, rfl⟩ : ∃ wp : World, wp = wr := ⟨_, rfl⟩
      have hs20 : sms.length ≤ 20 := by omega
      obtain ⟨S, hS⟩ : ∃ S, sms.length = S := ⟨_, rfl⟩
      have HSL := Lib.hid hS
      rw [hS] at hs20 ⊢
      clear HN2 HN3 HS3 hie hz1 hz2 hS hsl
      go_wp2_with fail
      go_loopw [63, 11] (fun i c wr => ∃ (k : Nat) (ns : List Msg) (tA : Option Addr) (tc : Nat) (bl : List (Value × List UInt8)), k ≤ K ∧ i = .int .i64 k ∧ c = .int .i64 (ns.length : Int) ∧ ns.length ≤ S + k ∧ Hid (∀ x ∈ ns, x ∈ sms) ∧ Hid (NetAt w1 wr N tA tc bl ns) ∧ Hid (SentAt w wr lo so sc sms)) (fun i _ _ => K - (intOf i).toNat)
      case atStart => exact ⟨0, sms, _, _, _, by omega, rfl, by rw [HSL.out], by have := HSL.out; omega, Lib.hid (fun _ h => h), HN, HS⟩
      case round =>
        obtain ⟨k, ns, tB, td, bm, hk, rfl, rfl, hnl, HSUB, HN', HS'⟩ := hrel
        by_cases hlt2 : k < K
        · have hkn : (k : Int) < (K : Int) := by omega
          have hk0 : (0 : Int) ≤ (k : Int) := by omega
          have hkm : k < ks.length := by have := HKL.out; omega
          have hsw : Same w wr := HK1.out.trans HN'.out.same (fun _ _ e => e)
          have HKW : Hid (Ints wr (.slice co K cc) ks) := Lib.hid (HK.out.same hsw)
          obtain ⟨a, rfl, hc⟩ := HKW.out.at hkm
          generalize ks[k] = z at hc
          have hnl40 : ns.length ≤ 40 := by omega
          have HNL := Lib.hid hnl40
          have hcu : IntKind.i64.wrap ((ns.length : Int) + 1) = (ns.length : Int) + 1 := IntWalk.i64_in _ (by omega)
          clear hsw hkm HKW
          go_wp2_with fail
          clear hc
          ((with_reducible refine (netCopy_any z wr HN'.out (by omega)).mono ?_); rintro e w5 ⟨hk5, tC, te, bn, ns', b, rfl, hn5, hr5⟩)
          have HN5 := Lib.hid hn5
          have HS5 := Lib.hid (HS'.out.netK hk5)
          clear hk5 hn5
          cases b with
          | true =>
            obtain ⟨j', hj', rfl⟩ : ∃ (j' : Nat) (hj' : j' < ns.length), ns' = ns ++ [ns[j']] := by
              rcases hr5 with ⟨_, _, j', hj', _, h⟩ | ⟨h, _⟩
              · exact ⟨j', hj', h⟩
              · cases h
            have HSUB5 : Hid (∀ x ∈ ns ++ [ns[j']], x ∈ sms) := Lib.hid (fun x hx => by
              rcases List.mem_append.1 hx with hx | hx
              · exact HSUB.out x hx
              · rw [List.mem_singleton] at hx; subst hx; exact HSUB.out _ (List.getElem_mem hj'))
            have HLE : Hid ((((ns ++ [ns[j']]).length : Nat) : Int) = (ns.length : Int) + 1 ∧ (ns ++ [ns[j']]).length ≤ S + (k + 1)) := Lib.hid (by
              rw [List.length_append, List.length_singleton]; omega)
            clear hr5
            go_wp2
            go_roundw
            case rel => exact ⟨k + 1, ns ++ [ns[j']], tC, te, bn, by omega, by go_num, by rw [HLE.out.1], HLE.out.2, HSUB5, HN5, HS5⟩
            case measure => simp [intOf]; omega
          | false =>
            obtain rfl : ns' = ns := by
              rcases hr5 with ⟨h, _⟩ | ⟨_, _, h⟩
              · cases h
              · exact h
            clear hr5
            go_wp2
            go_roundw
            case rel => exact ⟨k + 1, ns', tC, te, bn, by omega, by go_num, rfl, by omega, HSUB, HN5, HS5⟩
            case measure => simp [intOf]; omega
        · obtain rfl : k = K := by omega
          have hkn : ¬ (k : Int) < (k : Int) := by omega
          have hnl40 : ns.length ≤ 40 := by omega
          obtain ⟨wq, rfl⟩ : ∃ wq : World, wq = wr := ⟨_, rfl⟩
          clear HN HS hnl
          go_wp2_with fail
          go_loopw [75, 11] (fun i c wr => ∃ (q : Nat) (ns : List Msg) (tA : Option Addr) (tc : Nat) (bl : List (Value × List UInt8)), q ≤ D ∧ i = .int .i64 q ∧ c = .int .i64 (ns.length : Int) ∧ ns.length ≤ 40 ∧ Hid (∀ x ∈ ns, x ∈ sms) ∧ Hid (NetAt w1 wr N tA tc bl ns) ∧ Hid (SentAt w wr lo so sc sms)) (fun i _ _ => D - (intOf i).toNat)
          case atStart => exact ⟨0, ns, _, _, _, by omega, rfl, rfl, hnl40, HSUB, HN', HS'⟩
          case round =>
            obtain ⟨q, ns2, tC, te, bn, hq, rfl, rfl, hnl, HSUB2, HN2, HS2⟩ := hrel
            by_cases hlt3 : q < D
            · have hqn : (q : Int) < (D : Int) := by omega
              have hq0 : (0 : Int) ≤ (q : Int) := by omega
              have hqm : q < ds.length := by have := HDL.out; omega
              have hsw : Same w wr := HK1.out.trans HN2.out.same (fun _ _ e => e)
              have HDW : Hid (Ints wr (.slice dO D dc) ds) := Lib.hid (HD.out.same hsw)
              obtain ⟨a, rfl, hc⟩ := HDW.out.at hqm
              generalize ds[q] = z at hc
              have hcu : IntKind.i64.wrap ((ns2.length : Int) - 1) = (ns2.length : Int) - 1 := IntWalk.i64_in _ (by omega)
              clear hsw hqm HDW
              go_wp2_with fail
              clear hc
              ((with_reducible refine (netDrop_any z wr HN2.out (by omega)).mono ?_); rintro e w5 ⟨hk5, _, tX, tx, bx, ns', b, rfl, hn5, hr5⟩)
              have HN5 := Lib.hid hn5
              have HS5 := Lib.hid (HS2.out.netK hk5)
              clear hk5 hn5
              cases b with
              | true =>
                obtain ⟨j', hj', rfl⟩ : ∃ (j' : Nat) (hj' : j' < ns2.length), ns' = ns2.eraseIdx j' := by
                  rcases hr5 with ⟨_, j', _, hj', h⟩ | ⟨h, _⟩
                  · exact ⟨j', hj', h⟩
                  · cases h
                have HSUB5 : Hid (∀ x ∈ ns2.eraseIdx j', x ∈ sms) := Lib.hid (fun x hx => HSUB2.out x (List.mem_of_mem_eraseIdx hx))
                have HLE : Hid ((((ns2.eraseIdx j').length : Nat) : Int) = (ns2.length : Int) - 1 ∧ (ns2.eraseIdx j').length ≤ 40) := Lib.hid (by
                  rw [List.length_eraseIdx, if_pos hj']; omega)
                clear hr5
                go_wp2
                go_roundw
                case rel => exact ⟨q + 1, ns2.eraseIdx j', tX, tx, bx, by omega, by go_num, by rw [HLE.out.1], HLE.out.2, HSUB5, HN5, HS5⟩
                case measure => simp [intOf]; omega
              | false =>
                obtain rfl : ns' = ns2 := by
                  rcases hr5 with ⟨h, _⟩ | ⟨_, _, h⟩
                  · cases h
                  · exact h
                clear hr5
                go_wp2
                go_roundw
                case rel => exact ⟨q + 1, ns', tX, tx, bx, by omega, by go_num, rfl, hnl, HSUB2, HN5, HS5⟩
                case measure => simp [intOf]; omega
            · obtain rfl : q = D := by omega
              have hqn : ¬ (q : Int) < (q : Int) := by omega
              obtain ⟨wu, rfl⟩ : ∃ wu : World, wu = wr := ⟨_, rfl⟩
              have hnn : ((ns2.length : Int) != (ns2.length : Int)) = false := by simp
              clear HN' HS' HSUB hnl40
              go_wp2_with fail
              ((with_reducible refine (netLen_any _ HN2.out).mono ?_); rintro e w6 ⟨rfl, hk6⟩)
              have HN6 := Lib.hid (HN2.out.keepSame hk6)
              have HS6 := Lib.hid (HS2.out.same hk6)
              have HN6' := HN6
              have HS6' := HS6
              clear hk6 HN2 HS2
              go_wp2_with fail
              clear hnn
              go_loopw [11] (fun c wr => ∃ (ns : List Msg) (tA : Option Addr) (tc : Nat) (bl : List (Value × List UInt8)), c = .int .i64 (ns.length : Int) ∧ ns.length ≤ 40 ∧ Hid (∀ x ∈ ns, x ∈ sms) ∧ Hid (NetAt w1 wr N tA tc bl ns) ∧ Hid (SentAt w wr lo so sc sms)) (fun c _ => (intOf c).toNat)
              case atStart => exact ⟨ns2, _, _, _, rfl, hnl, HSUB2, HN6', HS6'⟩
              case round =>
                obtain ⟨ns, tX, tx, bx, rfl, hn40, HSUB, HN, HS⟩ := hrel
                obtain ⟨wo, rfl⟩ : ∃ wo : World, wo = wr := ⟨_, rfl⟩
                go_wp2_with fail
                ((with_reducible refine (netLen_any _ HN.out).mono ?_); rintro e w7 ⟨rfl, hk7⟩)
                have HN7 := Lib.hid (HN.out.keepSame hk7)
                have HS7 := Lib.hid (HS.out.same hk7)
                clear hk7
                by_cases h0 : ns.length = 0
                · have hz : ¬ (0 : Int) < (ns.length : Int) := by omega
                  go_wp2_with fail
                  ((with_reducible refine (netTake_any 0 w7 HN7.out HNUM1.out (by omega)).mono ?_); rintro e w8 ⟨hk8, m, tY, ty, by', hmi, _, hr8⟩)
                  obtain ⟨rfl, hn8⟩ : e = .returned (.tuple #[.agg m.cells.toArray, .bool false]) ∧ NetAt w1 w8 N tY ty by' ns := by
                    rcases hr8 with ⟨j, hj, _⟩ | ⟨_, _, h1, h2⟩
                    · omega
                    · exact ⟨h1, h2⟩
                  have HD21 : Hid (m.hd.length = 32) := Lib.hid hmi.hd
                  obtain ⟨G21, hG21⟩ : ∃ G, w8.heap.size = G := ⟨_, rfl⟩
                  obtain ⟨w21a, hw21a⟩ : ∃ wa, w8.alloc (.cells zeroM.cells.toArray 45) = wa := ⟨_, rfl⟩
                  have HZ21 : Hid (w21a.heap[G21]? = some (.cells zeroM.cells.toArray 45 (0, 0))) := Lib.hid (by rw [← hw21a, ← hG21]; exact heap_alloc_new w8 _)
                  obtain ⟨w21, hw21⟩ : ∃ w21, w21a.setRow G21 m.cells.toArray = w21 := ⟨_, rfl⟩
                  have HW21 := Lib.hid hw21
                  have hk21 : Same w8 w21 := by rw [← hw21, ← hw21a]; exact ((Keeps.refl _ _).alloc _).setRow _ _ (.inl (by omega))
                  have HM21 : Hid (Whole w21 G21 45 m.cells) := Lib.hid (by rw [← hw21]; exact setRow_heap _ _ _ _ _ _ HZ21.out)
                  have HR21 : Hid (w21.heap[G21]? = some (.cells m.cells.toArray 45 (0, 0))) := Lib.hid HM21.out
                  have HS21 := Lib.hid (Tryd.sizeMsgOf m HD21.out)
                  have HE21 : Hid (zeroM.cells.toArray.size = m.cells.toArray.size) := Lib.hid (by rw [List.size_toArray, List.size_toArray, m.cells_length HD21.out, zeroM.cells_length rfl])
                  have HA21 : Hid (m.cells.toArray.all (·.oneCell') = true) := Lib.hid m.cells_all
                  have HEND : Hid (Same w w21) := Lib.hid ((HK1.out.trans hn8.same (fun _ _ e => e)).trans hk21 (fun _ _ e => e))
                  clear hk8 hmi hr8 hn8 hk21 hw21
                  go_wp2_with ((with_reducible refine wpList_store_row ?_ 45 (.tmp 21) (.tmp 130) ?_ G21 m.cells.toArray ?_ ?_ 45 zeroM.cells.toArray HZ21.out HS21.out HE21.out HA21.out ?_); rfl; rfl; rfl; rfl; rw [HW21.out])
                  go_ret
                  exact ⟨rfl, HEND.out⟩
                have hz : (0 : Int) < (ns.length : Int) := by omega
                go_wp2_with fail
                ((with_reducible refine (netLen_any _ HN7.out).mono ?_); rintro e w8 ⟨rfl, hk8⟩)
                have HN8 := Lib.hid (HN7.out.keepSame hk8)
                have HS8 := Lib.hid (HS7.out.same hk8)
                have hcu : IntKind.i64.wrap ((ns.length : Int) - 1) = (ns.length : Int) - 1 := IntWalk.i64_in _ (by omega)
                clear hk8
                go_wp2_with fail
                ((with_reducible refine (netTake_any ((ns.length : Int) - 1) w8 HN8.out HNUM1.out (by omega)).mono ?_); rintro e w9 ⟨hk9, m, tY, ty, by', hmi, _, hr9⟩)
                obtain ⟨j, hj, hjl, hmR, hev, rfl, hn9⟩ : ∃ (j : Nat) (hj : j < ns.length), j = ns.length - 1 ∧ m.Right ∧ m.Eqv ns[j] ∧ e = .returned (.tuple #[.agg m.cells.toArray, .bool true]) ∧ NetAt w1 w9 N tY ty by' (ns.eraseIdx j) := by
                  rcases hr9 with ⟨j, hj, h1, h2, h3, h4, h5⟩ | ⟨h, _⟩
                  · exact ⟨j, hj, by omega, h2, h3, h4, h5⟩
                  · exact absurd ⟨by omega, by omega⟩ h
                have HMI := Lib.hid hmi
                have HMR := Lib.hid hmR
                have HIN : Hid (∃ x ∈ sms, m.Eqv x) := Lib.hid ⟨_, HSUB.out _ (List.getElem_mem hj), hev⟩
                have HLE : Hid ((((ns.eraseIdx j).length : Nat) : Int) = (ns.length : Int) - 1 ∧ (ns.eraseIdx j).length ≤ 40) := Lib.hid (by
                  rw [List.length_eraseIdx, if_pos hj]; omega)
                have HSUB9 : Hid (∀ x ∈ ns.eraseIdx j, x ∈ sms) := Lib.hid (fun x hx => HSUB.out x (List.mem_of_mem_eraseIdx hx))
                have HN9 := Lib.hid hn9
                have HS9 := Lib.hid (HS8.out.netK hk9)
                have HD16 : Hid (m.hd.length = 32) := Lib.hid hmi.hd
                obtain ⟨G16, hG16⟩ : ∃ G, w9.heap.size = G := ⟨_, rfl⟩
                obtain ⟨w16a, hw16a⟩ : ∃ wa, w9.alloc (.cells zeroM.cells.toArray 45) = wa := ⟨_, rfl⟩
                have HZ16 : Hid (w16a.heap[G16]? = some (.cells zeroM.cells.toArray 45 (0, 0))) := Lib.hid (by rw [← hw16a, ← hG16]; exact heap_alloc_new w9 _)
                obtain ⟨w16, hw16⟩ : ∃ w16, w16a.setRow G16 m.cells.toArray = w16 := ⟨_, rfl⟩
                have HW16 := Lib.hid hw16
                have hk16 : Same w9 w16 := by rw [← hw16, ← hw16a]; exact ((Keeps.refl _ _).alloc _).setRow _ _ (.inl (by omega))
                have HM16 : Hid (Whole w16 G16 45 m.cells) := Lib.hid (by rw [← hw16]; exact setRow_heap _ _ _ _ _ _ HZ16.out)
                have HR16 : Hid (w16.heap[G16]? = some (.cells m.cells.toArray 45 (0, 0))) := Lib.hid HM16.out
                have HS16 := Lib.hid (Tryd.sizeMsgOf m HD16.out)
                have HE16 : Hid (zeroM.cells.toArray.size = m.cells.toArray.size) := Lib.hid (by rw [List.size_toArray, List.size_toArray, m.cells_length HD16.out, zeroM.cells_length rfl])
                have HA16 : Hid (m.cells.toArray.all (·.oneCell') = true) := Lib.hid m.cells_all
                have HN16 := Lib.hid (HN9.out.keepSame hk16)
                have HS16' := Lib.hid (HS9.out.same hk16)
                have HMI16 := Lib.hid (HMI.out.same hk16)
                have HSW16 : Hid (Same w w16) := Lib.hid (HK1.out.trans HN16.out.same (fun _ _ e => e))
                have HSM := Lib.hid (fun (x : Msg) (w' : World) (k : Same w16 w') (hx : MsgIn w x) => sameMsg_any m x w' (HMI16.out.same k) ((hx.same HSW16.out).same k) (Msg.Good.nsLe HMR.out))
                unfold BoolPost at HSM
                clear hk9 hmi hr9 hmR hev hn9 hk16 hw16 hjl
                go_wp2_with ((with_reducible refine wpList_store_row ?_ 45 (.tmp 16) (.tmp 98) ?_ G16 m.cells.toArray ?_ ?_ 45 zeroM.cells.toArray HZ16.out HS16.out HE16.out HA16.out ?_); rfl; rfl; rfl; rfl; rw [HW16.out])
                clear hG16 hw16a
                go_loopw [102, 18] (fun i f wx => ∃ (q : Nat) (fb : Bool), q ≤ S ∧ i = .int .i64 q ∧ f = .bool fb ∧ Hid (fb = true ↔ ∃ x ∈ sms.take q, m.Eqv x) ∧ Hid (Same w16 wx)) (fun i _ _ => S - (intOf i).toNat)
                case atStart => exact ⟨0, false, by omega, rfl, rfl, Lib.hid (by simp), Lib.hid (Keeps.refl _ _)⟩
                case round =>
                  obtain ⟨q, fb, hq, rfl, rfl, HFB, HKX⟩ := hrel
                  by_cases hlt5 : q < S
                  · have hqn5 : (q : Int) < (S : Int) := by omega
                    have hq05 : (0 : Int) ≤ (q : Int) := by omega
                    have hqs : q < sms.length := by have := HSL.out; omega
                    obtain ⟨g, rfl, hrng⟩ := HS16'.out.at hqs
                    have HRG := Lib.hid (hrng wr HKX.out)
                    have HXI : Hid (MsgIn w sms[q]) := Lib.hid (HS16'.out.each _ (List.getElem_mem hqs))
                    have HTK : Hid (sms.take (q + 1) = sms.take q ++ [sms[q]]) := Lib.hid (by rw [List.take_add_one, List.getElem?_eq_getElem hqs]; rfl)
                    generalize sms[q] = x at HRG HXI HTK
                    have HD20 : Hid (x.hd.length = 32) := Lib.hid HXI.out.hd
                    have HSZ : Hid ((Tryd.prog.info? 45).map (·.size) = some x.cells.length) := Lib.hid (by rw [x.cells_length HXI.out.hd]; exact Tryd.sizeMsg)
                    obtain ⟨G20, hG20⟩ : ∃ G, wr.heap.size = G := ⟨_, rfl⟩
                    obtain ⟨w20a, hw20a⟩ : ∃ wa, wr.alloc (.cells zeroM.cells.toArray 45) = wa := ⟨_, rfl⟩
                    have HZ20 : Hid (w20a.heap[G20]? = some (.cells zeroM.cells.toArray 45 (0, 0))) := Lib.hid (by rw [← hw20a, ← hG20]; exact heap_alloc_new wr _)
                    obtain ⟨w20, hw20⟩ : ∃ w20, w20a.setRow G20 x.cells.toArray = w20 := ⟨_, rfl⟩
                    have HW20 := Lib.hid hw20
                    have hk20 : Same wr w20 := by rw [← hw20, ← hw20a]; exact ((Keeps.refl _ _).alloc _).setRow _ _ (.inl (by omega))
                    have HM20 : Hid (Whole w20 G20 45 x.cells) := Lib.hid (by rw [← hw20]; exact setRow_heap _ _ _ _ _ _ HZ20.out)
                    have HR20 : Hid (w20.heap[G20]? = some (.cells x.cells.toArray 45 (0, 0))) := Lib.hid HM20.out
                    have HS20 := Lib.hid (Tryd.sizeMsgOf x HD20.out)
                    have HE20 : Hid (zeroM.cells.toArray.size = x.cells.toArray.size) := Lib.hid (by rw [List.size_toArray, List.size_toArray, x.cells_length HD20.out, zeroM.cells_length rfl])
                    have HA20 : Hid (x.cells.toArray.all (·.oneCell') = true) := Lib.hid x.cells_all
                    have HK20 : Hid (Same w16 w20) := Lib.hid (HKX.out.trans hk20 (fun _ _ e => e))
                    have HR16' : Hid (w20.heap[G16]? = some (.cells m.cells.toArray 45 (0, 0))) := Lib.hid (HK20.out.obj HR16.out (fun e => e))
                    clear hrng hqs hk20 hw20
                    cases fb with
                    | true =>
                      go_wp2_with (first
                        | (refine wpList_load_mid (by rfl) 45 (.tmp 104) (by rfl) g (q * 53) (by rfl) x.cells _ HRG.out Tryd.underlying45 rfl HSZ.out ?_)
                        | ((with_reducible refine wpList_store_row ?_ 45 (.tmp 20) (.tmp 105) ?_ G20 x.cells.toArray ?_ ?_ 45 zeroM.cells.toArray HZ20.out HS20.out HE20.out HA20.out ?_); rfl; rfl; rfl; rfl; rw [HW20.out])
                        | ((with_reducible refine wpList_skip_by 1 107 false ?_ ?_ ?_ ?_); rfl; rfl; kernel_rfl))
                      clear hG20 hw20a
                      go_roundw
                      case rel => exact ⟨q + 1, true, by omega, by go_num, rfl, Lib.hid ⟨fun _ => (by
                        obtain ⟨y, hy, he⟩ := HFB.out.1 rfl
                        exact ⟨y, by rw [HTK.out]; exact List.mem_append_left _ hy, he⟩), fun _ => rfl⟩, HK20⟩
                      case measure => simp [intOf]; omega
                    | false =>
                      have HCALL := Lib.hid (HSM.out x w20 HK20.out HXI.out)
                      go_wp2_with (first
                        | (refine wpList_load_mid (by rfl) 45 (.tmp 104) (by rfl) g (q * 53) (by rfl) x.cells _ HRG.out Tryd.underlying45 rfl HSZ.out ?_)
                        | ((with_reducible refine wpList_store_row ?_ 45 (.tmp 20) (.tmp 105) ?_ G20 x.cells.toArray ?_ ?_ 45 zeroM.cells.toArray HZ20.out HS20.out HE20.out HA20.out ?_); rfl; rfl; rfl; rfl; rw [HW20.out])
                        | ((with_reducible refine wpList_load_row_w ?_ 45 (.tmp 16) ?_ G16 ?_ 45 m.cells.toArray (0, 0) _ HR16'.out Tryd.underlying45 ?_ HS16.out ?_); rfl; rfl; rfl; rfl)
                        | ((with_reducible refine wpList_load_row_w ?_ 45 (.tmp 20) ?_ G20 ?_ 45 x.cells.toArray (0, 0) _ HR20.out Tryd.underlying45 ?_ HS20.out ?_); rfl; rfl; rfl; rfl))
                      clear hG20 hw20a
                      ((with_reducible refine HCALL.out.mono ?_); rintro e w30 ⟨bb, rfl, hbb, hk30⟩)
                      have HK30 : Hid (Same w16 w30) := Lib.hid (HK20.out.trans hk30 (fun _ _ e => e))
                      have HBB := Lib.hid hbb
                      clear hk30 hbb
                      go_wp2
                      go_roundw
                      case rel => exact ⟨q + 1, bb, by omega, by go_num, rfl, Lib.hid (by
                        rw [HBB.out, HTK.out]
                        constructor
                        · intro h; exact ⟨x, by simp, h⟩
                        · rintro ⟨y, hy, he⟩
                          rcases List.mem_append.1 hy with hy | hy
                          · exact absurd (HFB.out.2 ⟨y, hy, he⟩) (by simp)
                          · rw [List.mem_singleton] at hy; subst hy; exact he), HK30⟩
                      case measure => simp [intOf]; omega
                  · obtain rfl : q = S := by omega
                    have hqn5 : ¬ (q : Int) < (q : Int) := by omega
                    obtain rfl : fb = true := by
                      refine HFB.out.2 ?_
                      obtain ⟨y, hy, he⟩ := HIN.out
                      exact ⟨y, by rw [List.take_of_length_le (by rw [HSL.out]; exact Nat.le_refl _)]; exact hy, he⟩
                    have HNX := Lib.hid (HN16.out.keepSame HKX.out)
                    have HSX := Lib.hid (HS16'.out.same HKX.out)
                    have HLN := Lib.hid (netLen_any wr HNX.out)
                    rw [HLE.out.1] at HLN
                    have hnn : (((ns.length : Int) - 1) != ((ns.length : Int) - 1)) = false := by simp
                    clear HFB HIN
                    go_wp2_with fail
                    ((with_reducible refine HLN.out.mono ?_); rintro e w31 ⟨rfl, hk31⟩)
                    have HN31 := Lib.hid (HNX.out.keepSame hk31)
                    have HS31 := Lib.hid (HSX.out.same hk31)
                    clear hk31
                    go_wp2
                    go_roundw
                    case rel => exact ⟨ns.eraseIdx j, tY, ty, by', by rw [HLE.out.1], HLE.out.2, HSUB9, HN31, HS31⟩
                    case measure => simp [intOf]; omega
end Go.Proofs.YtafgiljgefeefaaDoor
