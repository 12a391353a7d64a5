/- What PackBack does in its first loop: the calls that a pen takes, and what it writes for them. -/
import Derived.Test.YtomjgdlekfppkaaScript02
import Derived.Test.YtomjgdlekfppkaaSpk02
import Derived.Test.YtomjgdlekfppkaaEye4
namespace Go.Proofs.Ytomjgdlekfppkaa
open Go.RowKit
set_option linter.unusedVariables false

/-- Is a call one of a number? -/
def Opx.isNum (o : Opx) : Bool := bits BinOp.and IntKind.i64 o.kind 1 == 0
theorem bit_cases (k : Int) : bits BinOp.and IntKind.i64 k 1 = 0 ∨ bits BinOp.and IntKind.i64 k 1 = 1 := by
  have h2 : (BitVec.ofInt IntKind.i64.bits k &&& BitVec.ofInt IntKind.i64.bits 1).toNat ≤ 1 := by
    rw [BitVec.toNat_and]
    have h3 : (BitVec.ofInt IntKind.i64.bits 1).toNat = 1 := by decide
    rw [h3]
    exact Nat.and_le_right
  have h4 : bits BinOp.and IntKind.i64 k 1 = IntKind.i64.wrap ((BitVec.ofInt IntKind.i64.bits k &&& BitVec.ofInt IntKind.i64.bits 1).toNat : Int) := rfl
  rw [h4, IntWalk.i64_in _ (by omega)]
  omega
/-- Does a pen take it? -/
def Opx.good (o : Opx) : Bool := if o.isNum then decide (1 ≤ o.size ∧ o.size ≤ 8 ∧ o.num < 256 ^ o.size.toNat) else decide (o.bs.length ≤ 65535)
/-- What a pen writes for it. -/
def Opx.enc (o : Opx) : List UInt8 := if o.isNum then be o.num o.size.toNat else be o.bs.length 2 ++ o.bs
theorem Opx.enc_length (o : Opx) (h : o.good = true) : o.enc.length ≤ o.bs.length + 10 := by
  unfold Opx.enc Opx.good at *
  split at h
  · rename_i e; rw [if_pos e, be_length]; simp at h; omega
  · rename_i e; rw [if_neg e, List.length_append, be_length]; omega
def encs (l : List Opx) : List UInt8 := l.flatMap Opx.enc
theorem encs_length : ∀ l : List Opx, (encs (l.filter Opx.good)).length ≤ weight l
  | [] => by simp [encs, weight]
  | o :: l => by
    have ih := encs_length l
    simp only [weight, List.map_cons, List.sum_cons] at ih ⊢
    rw [List.filter_cons]
    split
    · rename_i e
      have := o.enc_length e
      simp only [encs, List.flatMap_cons, List.length_append] at ih ⊢
      omega
    · omega
def opCells (l : List Opx) : List Value := l.flatMap fun o => [.int .i64 o.kind, .int .i64 o.size, .int .u64 o.num, o.val]
theorem opCells_length : ∀ l : List Opx, (opCells l).length = l.length * 4
  | [] => rfl
  | o :: l => by
    have := opCells_length l
    simp only [opCells, List.flatMap_cons, List.length_append, List.length_cons, List.length_nil] at this ⊢
    omega

/-- Where the first loop stands behind j calls. -/
structure Half (w wr : World) (BP : Nat) (d : Value) (l : List Opx) : Prop where
  ex : ∃ row gd cap, d = .slice (some ⟨gd, 0, none⟩) l.length cap ∧ Pen 28 5 wr BP (BP + 1) row (encs l) ∧ wr.ownsRow (BP + 1) 31 4 d l.length (opCells l) ∧ row ≠ some gd
  same : Same w wr
  new : w.heap.size ≤ BP

/-- A step of the pen, a call's own variable, and the append. -/
theorem Half.next {w wr w2 w3 : World} {BP gd gd' cap cap' : Nat} {row : Option Nat} {l : List Opx} {o : Opx} {x y : Obj} (h1 : Same w wr) (h0 : w.heap.size ≤ BP)
    (hp : Pen 28 5 wr BP (BP + 1) row (encs l)) (hd : wr.ownsRow (BP + 1) 31 4 (.slice (some ⟨gd, 0, none⟩) l.length cap) l.length (opCells l)) (hr : row ≠ some gd)
    (hs : Step 28 5 (wr.alloc x) w2 BP (BP + 1) row (encs l) o.enc)
    (hown : w3.ownsRow (BP + 1) 31 4 (.slice (some ⟨gd', 0, none⟩) (l.length + 1) cap') (l.length + 1) (opCells l ++ opCells [o])) (hg : (w2.alloc y).grownBy w3 (some gd)) (hat : some gd = some gd' ∨ gd' = w2.heap.size + 1) :
    Half w w3 BP (.slice (some ⟨gd', 0, none⟩) (l.length + 1) cap') (l ++ [o]) := by
  obtain ⟨row2, hp2, hk2, hm2⟩ := hs.ex
  have hgd := hd.lt gd rfl
  have hk3 : Keeps (fun k => k = gd) w2 w3 := ((Keeps.refl _ _).alloc _).grown hg (fun k e _ => by simp at e; exact e.symm)
  have hsz := h1.size
  have hB := hp.lt
  have hrow2 : row2 ≠ some gd := by
    rcases hm2 with rfl | ⟨g, rfl, hgg⟩
    · exact hr
    · simp only [World.size_alloc] at hgg; simp; omega
  have hp3 := hp2.keeps hk3 (by omega) (fun j e h => hrow2 (by rw [e, h]))
  refine ⟨⟨row2, gd', cap', by simp, ?_, ?_, ?_⟩, ?_, h0⟩
  · simpa [encs] using hp3
  · simpa [opCells] using hown
  · rcases hat with e | e
    · simp only [Option.some.injEq] at e; rw [← e]; exact hrow2
    · intro e2
      have := (hp2.row_lt gd' e2).2
      omega
  · have k1 : Same w (wr.alloc x) := h1.alloc _
    have k2 : Same w w2 := k1.trans hk2 (fun j hj => notPen (by omega) (fun e => by have := (hp.row_lt j e).1; omega))
    exact k2.trans hk3 (fun j hj e => by omega)
theorem Half.start (w : World) : Half w ((w.alloc (.cells #[.slice none 0 0] 28)).alloc (.cells #[] 31)) w.heap.size (.slice (some ⟨w.heap.size + 1, 0, none⟩) 0 0) [] := by
  refine ⟨⟨none, w.heap.size + 1, 0, rfl, ?_, ?_, by simp⟩, ((Keeps.refl _ _).alloc _).alloc _, Nat.le_refl _⟩
  · exact (Pen.new _ _ w).keeps ((Keeps.refl (fun _ => False) _).alloc _) (fun e => e) (fun _ _ e => e)
  · have := World.ownsRow_made (base := w.heap.size + 1) (e := 31) (size := 4) (w.alloc (.cells #[.slice none 0 0] 28)) #[] 0 (by simp) (by unfold maxLen; omega) (by simp)
    simpa [opCells] using this
/-- A call that the pen refuses. -/
theorem Half.skip {w wr : World} {BP : Nat} {d : Value} {l : List Opx} (h : Half w wr BP d l) (x : Obj) : Half w (wr.alloc x) BP d l := by
  obtain ⟨row, gd, cap, rfl, hp, hd, hr⟩ := h.ex
  have hk : Same wr (wr.alloc x) := (Keeps.refl _ _).alloc _
  exact ⟨⟨row, gd, cap, rfl, hp.keeps hk (fun e => e) (fun _ _ e => e), own_keeps hk hd (fun _ _ e => e), hr⟩, h.same.alloc _, h.new⟩
theorem filter_yes (ops : List Opx) (j : Nat) (h : j < ops.length) (hg : ops[j].good = true) : (ops.take (j + 1)).filter Opx.good = (ops.take j).filter Opx.good ++ [ops[j]] := by
  rw [List.take_succ_eq_append_getElem h, List.filter_append]; simp [hg]
theorem filter_no (ops : List Opx) (j : Nat) (h : j < ops.length) (hg : ops[j].good = false) : (ops.take (j + 1)).filter Opx.good = (ops.take j).filter Opx.good := by
  rw [List.take_succ_eq_append_getElem h, List.filter_append]; simp [hg]
theorem weight_take (ops : List Opx) (j : Nat) : weight (ops.take j) ≤ weight ops := by
  unfold weight
  conv => rhs; rw [← List.take_append_drop j ops]
  rw [List.map_append, List.sum_append]; omega
theorem weight_length (ops : List Opx) : ops.length * 10 ≤ weight ops := by
  induction ops with
  | nil => simp [weight]
  | cons o l ih => simp only [weight, List.map_cons, List.sum_cons, List.length_cons] at ih ⊢; omega
theorem weight_get (ops : List Opx) (j : Nat) (h : j < ops.length) : ops[j].bs.length ≤ weight ops := by
  have h1 := weight_snoc ops j h
  have h2 := weight_take ops (j + 1)
  omega

theorem Script.mem {w : World} {ao : Option Addr} {ops : List Opx} (h : Script w ao ops) (o : Opx) (ho : o ∈ ops) : Bytes w o.val o.bs ∧ (∀ a n c, o.val = .slice (some a) n c → o.bs ≠ [] → a.spot = none) ∧ o.num < 18446744073709551616 := by
  obtain ⟨j, hj, rfl⟩ := List.getElem_of_mem ho
  rcases h with h | ⟨g, off, _, h2⟩
  · subst h; simp at hj
  · exact ⟨(h2 j hj).bytes, (h2 j hj).spot, (h2 j hj).small⟩
theorem opCells_get : ∀ (l : List Opx) (j : Nat) (h : j < l.length), (opCells l)[j * 4]? = some (.int .i64 l[j].kind) ∧ (opCells l)[j * 4 + 1]? = some (.int .i64 l[j].size) ∧ (opCells l)[j * 4 + 1 + 1]? = some (.int .u64 l[j].num) ∧ (opCells l)[j * 4 + 1 + 1 + 1]? = some l[j].val
  | o :: l, 0, h => by simp [opCells]
  | o :: l, j + 1, h => by
    have ih := opCells_get l j (by simpa using h)
    have e : opCells (o :: l) = [.int .i64 o.kind, .int .i64 o.size, .int .u64 o.num, o.val] ++ opCells l := by simp [opCells]
    have e2 : ∀ i, (opCells (o :: l))[(j + 1) * 4 + i]? = (opCells l)[j * 4 + i]? := by
      intro i
      rw [e, List.getElem?_append_right (by simp; omega)]
      congr 1
      simp; omega
    have h0 := e2 0
    have h1 := e2 1
    have h2 := e2 2
    have h3 := e2 3
    simp only [Nat.add_zero] at h0
    refine ⟨h0.trans ih.1, h1.trans ih.2.1, h2.trans ih.2.2.1, h3.trans ih.2.2.2⟩
theorem encs_split (l : List Opx) (j : Nat) (h : j < l.length) : encs l = encs (l.take j) ++ (l[j].enc ++ encs (l.drop (j + 1))) := by
  conv => lhs; rw [← List.take_append_drop j l, List.drop_eq_getElem_cons h]
  unfold encs
  rw [List.flatMap_append, List.flatMap_cons]
theorem encs_take_succ (l : List Opx) (j : Nat) (h : j < l.length) : encs (l.take (j + 1)) = encs (l.take j) ++ l[j].enc := by
  rw [List.take_succ_eq_append_getElem h]
  unfold encs
  rw [List.flatMap_append, List.flatMap_cons, List.flatMap_nil, List.append_nil]
theorem drop_encs (l : List Opx) (j : Nat) (h : j < l.length) : (encs l).drop (encs (l.take j)).length = l[j].enc ++ encs (l.drop (j + 1)) := by
  rw [encs_split l j h, List.drop_append_of_le_length (Nat.le_refl _), List.drop_length, List.nil_append]
theorem encs_le (l : List Opx) (j : Nat) (h : j < l.length) : (encs (l.take j)).length + l[j].enc.length ≤ (encs l).length := by
  rw [encs_split l j h, List.length_append, List.length_append]; omega
theorem beVal_be (n : Nat) : ∀ s, beVal (be n s) = n % 256 ^ s
  | 0 => by simp [be, beVal, Nat.mod_one]
  | s + 1 => by
    rw [be_succ]
    have h := beVal_cons (UInt8.ofNat (n / 256 ^ s)) (be n s)
    rw [h, beVal_be n s, be_length, byte_toNat, split_at]
    rw [Nat.mul_comm, Nat.add_comm]

theorem infoOp : (Try.prog.info? 31).map (fun i => (i.zero, i.size, i.bytes)) = some (some (.agg #[.int .i64 0, .int .i64 0, .int .u64 0, .slice none 0 0]), 4, 48) := by kernel_rfl

end Go.Proofs.Ytomjgdlekfppkaa
